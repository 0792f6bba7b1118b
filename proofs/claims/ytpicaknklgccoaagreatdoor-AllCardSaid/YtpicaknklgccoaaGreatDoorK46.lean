import Derived.Test.YtpicaknklgccoaaGreatDoorK44
import Derived.Lib.SlBytesRow
import Derived.Lib.BufferRead
set_option maxHeartbeats 4000000
set_option maxRecDepth 100000
namespace Go.Proofs.YtpicaknklgccoaaGreatDoor
open Tryz
open Go.RowKit
variable {w:Nat}{a:List Rec}{b:World}{c:Option Nat}
abbrev gE:=@World.drewN_drewN
theorem Wh(L)(hlo:∀i,-1<=rU L.regs i)(h:Nat)(u)(y z:Nat)(A)(B C:Nat)(F)(G)(p:Nat)(k)(nm rg)(c)(D:k≠.new)(ih:∀x∈c,Jm L h (.slice u y z) (.slice A B C) F G x):S9 L h (.slice u y z) (.slice A B C) F G (.node p k nm rg c):=by
 intro d w v tx H q s I j l e;simp only[om]at H;obtain⟨⟨n,hn,J,M,N,O,P⟩,Q⟩:=H;simp only[PT.eO]at q;simp only[PT.wf]at s;simp only[PT.cnt]at I j;have har:c.length<=3:=by rw[s.1];cases k<;>decide
 have S:=kS w (.slice u y z) (.slice A B C) F G (e.tree w fp) (d+aU c) n hn e.len;have t:=l.blk;have hbl:=e.len;have y0:w.cell? ⟨h,0,none⟩=some (.slice u y z):=by rw[aI t];rfl
 have y1:w.cell? ⟨h,1,none⟩=some (.slice A B C):=by rw[aI t];rfl
 have g:=λ(o:World)(t:bg w o)=>e.lay o (t.mono (gi (aG l.blk)));have T:=λ(o:World)(t:bg w o)=>LF o L (g o t) e.rl (d+aU c) (by have:=e.len;omega);obtain⟨a0,e0,U⟩:=cm (g w fp).r;obtain⟨a1,e1,V⟩:=cm (g w fp).a;rw[U,V]at T;have f:=λo (h1:sM L h o (.slice u y z) (.slice A B C) v tx) (h2:wo L h o (.slice u y z) (.slice A B C) F G)=>
  Gh L h u y z A B C F G k nm c D har ih d o v tx n J M N O P Q q.1 q.2 s.2 (by omega) j (d+aU c) (hlo _) h1 h2
 rw[S5 L.regs L.news p k nm rg c d D]at f;have q1:((n.form:Int)==1)=false:=aJ (x:=1) (by rw[J];cases k<;>decide);have q2:((n.form:Int)==2)=false:=aJ (x:=2) (by rw[J];cases k<;>decide);have q12:((n.form:Int)==12)=false:=aJ (x:=12) (by rw[J];cases k<;>first|decide|exact absurd rfl D);unfold dK at f;have hlt:=aG t;unfold cG dK at S;simp only[PT.cnt];rw[show (((d+(1+aU c):Nat):Int)-1)=((d+aU c:Nat):Int) from by omega];generalize (PT.node p k nm rg c).A2 L.regs L.news d=px at*;generalize rU L.regs (d+aU c)=R at*;generalize d+aU c=K at*;clear g t hn J M N O P Q ih q s j I;go_in;go_wp2_with fail;refine ay S ?_;rintro _ W ⟨rfl,m⟩;have hs1:=m.size;have E:=m.alloc m.size (gG n);have hwl:h<W.heap.size:=by omega
 have hwn:h≠W.heap.size:=by omega
 have y2:W.cell? ⟨h,2,none⟩=some (.slice a0 L.regs.length e0):=by rw[aI (l.below m).blk,<-U];rfl
 have y3:W.cell? ⟨h,3,none⟩=some (.slice a1 L.news.length e1):=by rw[aI (l.below m).blk,<-V];rfl
 go_wp2_with fail;refine (T _ E).mono ?_;rintro _ w2 ⟨rfl,X⟩;have hB:=E.trans (X.mono E.size);have Y:w2.heap[W.heap.size]?=some (gG n):=by rw[X.block _ (by simp)];exact bD _ _
 obtain⟨d0,d1,d2,d3,d4,d5,d6,d7,d8,d9⟩:=cD Y;have xP:=aG Y;go_wp2_with fail;refine (f _ (l.below hB) (e.on (hB.mono (gi hlt)))).mono ?_;rintro _ w3 ⟨v',rfl,hfr,Z⟩;go_wp2_with fail;refine bP (v:=.tuple #[]) (by simp[results,results110,go_sem]) rfl ⟨v',rfl,(qY.pL v hB).trans hfr,Z⟩
theorem Wi(L)(o:∀i,-1<=rU L.regs i)(c:Nat)(d)(e f:Nat)(g)(h j:Nat)(l)(m)(t):t.wf->Jm L c (.slice d e f) (.slice g h j) l m t:=by
 induction t using PT.ind with
 |h1 p s=>exact λ_=>Gg L _ _ _ _ _ _ (Zq L c d e f g h j l m p s)
 |h2 p s=>exact λ_=>Gg L _ _ _ _ _ _ (Wg L c d e f g h j l m p s)
 |h3 p k q r b w=>
  intro n;have a:=λx u=>w x u (s7 n.2 x u);by_cases v:k=.new
  ·subst v
   match b,n.1,a with
   |[x],_,a=>exact Gg L _ _ _ _ _ _ (Zr L c d e f g h j l m p q r x (a x (by simp)))
  ·exact Gg L _ _ _ _ _ _ (Wh L o c d e f g h j l m p k q r b v a)
open Go.Lib (strCells)
theorem Ny:prog.underlying 5=some (.int .u8):=by kernel_rfl
theorem Te(w)(b:Nat)(v)(a)(h:w.ownsRow b 5 1 v a.length (strCells (bs a))):(convert 121 9 v).run prog w=.ok (.string (bs a)) w:=by
 rcases h.2 with⟨h1,h2⟩|⟨g,c,f,h1,_⟩
 ·obtain rfl:a=[]:=jC h2;subst h1;exact Lib.run_convert_nil_bytes w _ _ _ 0 xA Ny CV
 ·subst h1;have j:Lib.Bytes w g 0 (bs a):=by
   intro i d;rw[bJ,h.cellAt i (by rw[eB]at d;omega)];have e:i<a.length:=by rw[eB]at d;exact d
   simp[strCells,bs,e];rfl
  have:=Lib.run_convert_whole (P:=prog) w _ _ _ xA Ny CV g 0 (bs a) j c;exact this
abbrev Zz(a:Option Addr)(b c:Nat)(d:Option Addr)(e f:Nat):Obj:=.cells #[.slice a b c,.slice d e f] 59
abbrev bxL(a:Option Addr)(b c:Nat)(d:Option Addr)(e f:Nat):Obj:=.cells #[.slice a b c,.slice d e f] 73
abbrev bxW(a:Option Addr)(b c:Nat)(d:Option Addr)(e f:Nat)(g:Option Addr)(h i:Nat)(j:Option Addr)(k l:Nat):Obj:=.cells #[.slice a b c,.slice d e f,.slice g h i,.slice j k l,.slice none 0 0] 123
theorem CY (w) (d) (e f:Nat) (c) (g j:Nat) (a b) (R:CX w ⟨.slice d e f,.slice c g j,a,b⟩) (H:LyB a b) (I:∀i,-1<=rU a i) (J:a.length<=9000) (k) (l m:Nat) (n) (o p:Nat) (u) (G) (t) (O:ew w (.slice k l m) (.slice n o p) u G) (y:Lib.TabIs prog w "internal/strconv.uint64pow10" .u64 Lib.pow10Tab)
  (K:om u t 0) (L:t.eO) (z:t.wf) (A:t.cnt=u.length) (P:u.length<=9000):
  Calls prog 36 #[cG (.slice k l m) (.slice n o p),.agg #[.slice d e f,.slice c g j]] w λv r=>v=.returned (.string (bs (t.yI a b 0)))/\bg w r:=by
 have S:bg w ((w.alloc (Zz k l m n o p)).alloc (bxL d e f c g j)):=(fp.alloc bS _).alloc (by simp) _;have B:bg w (((w.alloc (Zz k l m n o p)).alloc (bxL d e f c g j)).alloc (bxW k l m n o p d e f c g j)):=S.alloc (by simp;omega) _;have C:sM ⟨.slice d e f,.slice c g j,a,b⟩ (w.heap.size+2) (((w.alloc (Zz k l m n o p)).alloc (bxL d e f c g j)).alloc (bxW k l m n o p d e f c g j)) (.slice k l m) (.slice n o p) (.slice none 0 0) []:=
  ⟨by have:=bD ((w.alloc (Zz k l m n o p)).alloc (bxL d e f c g j)) (bxW k l m n o p d e f c g j);simpa using this,wD⟩
 have D:wo ⟨.slice d e f,.slice c g j,a,b⟩ (w.heap.size+2) (((w.alloc (Zz k l m n o p)).alloc (bxL d e f c g j)).alloc (bxW k l m n o p d e f c g j)) (.slice k l m) (.slice n o p) u G:=
  ⟨λr E=>O.below (B.trans (E.mono (by omega))),λr E=>cC y r (B.trans (E.mono (by omega))),P,λr E=>R.below (B.trans (E.mono (by omega))),H,J⟩
 have F:=λr (h:bg w r)=>yC r _ _ u G (O.below h) P;have x:=λr h1 h2=>Wi ⟨.slice d e f,.slice c g j,a,b⟩ I (w.heap.size+2) k l m n o p u G t z 0 r (.slice none 0 0) [] K L z (by omega) (by simp;omega) h1 h2;rw[bJ,A]at x;simp only[bC]at x;unfold cG at F;unfold cG;go_in;go_wp2_with fail;refine (F _ B).mono ?_;rintro _ X ⟨rfl,s⟩;go_wp2_with fail;refine (x _ (C.below s) (D.on (s.mono (by simp)))).mono ?_;rintro _ Q ⟨Y,rfl,M,q⟩;have N:=B.trans (((s.mono (by simp)).trans ((C.below s).fr M)).mono (by omega));obtain⟨T,U,V⟩:=cm q.row;subst V;have c:cg Q (w.heap.size+2) 4 (.slice T (t.yI a b 0).length U):=dR q.blk rfl;have W:=Te Q _ _ _ q.row;go_wp2;go_ret;exact⟨rfl,N⟩
theorem LH (w) (d) (e f:Nat) (g) (h j:Nat) (a) (n) (t) (o:ew w (.slice d e f) (.slice g h j) a n) (b:Lib.TabIs prog w "internal/strconv.uint64pow10" .u64 Lib.pow10Tab)
  (k:om a t 0) (l:t.eO) (m:t.wf) (c:t.cnt=a.length) (p:a.length<=9000):
  Calls prog 36 #[cG (.slice d e f) (.slice g h j),.agg #[.slice none 0 0,.slice none 0 0]] w λv q=>v=.returned (.string (bs t.uh))/\bg w q:=by
 have:=CY w none 0 0 none 0 0 [] [] ⟨wD,wD⟩ ⟨by simp,λi=>by simp[rU]⟩ (λi=>by simp[rU]) (by simp) d e f g h j a n t o b k l m c p;rw[Wf]at this;exact this
theorem Qe (w) (a) (b c:Nat) (d) (e f:Nat) (g) (q) (t) (s:ew w (.slice a b c) (.slice d e f) g q) (h:Lib.TabIs prog w "internal/strconv.uint64pow10" .u64 Lib.pow10Tab)
  (l:om g t 0) (m:t.eO) (n:t.wf) (i:t.cnt=g.length) (u:g.length<=9000):
  Calls prog 55 #[cG (.slice a b c) (.slice d e f)] w λv j=>v=.returned (.string (bs t.uh))/\bg w j:=by
 have k:=λj (r:bg w j)=>LH j a b c d e f g q t (s.below r) (cC h j r) l m n i u;unfold cG at k;unfold cG;go_in;go_wp2_with fail;refine (k _ ((aM _ w).alloc bS (Zz a b c d e f))).mono ?_;rintro _ x ⟨rfl,o⟩;have p:=((aM _ w).alloc bS (Zz a b c d e f)).trans (o.mono (by simp));go_wp2;go_ret;exact⟨rfl,p⟩
theorem uY(s)(w)(x y:Nat)(d:x≠0)(a:∀w,Calls prog 54 #[.string s] w λv b=>v=.returned (.tuple #[cG (.slice none 0 0) (.slice none 0 0),.int .i64 x,.int .i64 y])/\bg w b):Calls prog 29 #[.string s] w λv b=>v=.returned (.tuple #[.string (bs []),.int .i64 x])/\bg w b:=by
 unfold cG at a;have q:((x:Int) !=0)=true:=by simp;omega
 go_in;go_wp2_with fail;refine (a _).mono ?_;rintro _ e ⟨rfl,c⟩;go_wp2;refine au (v:=.tuple #[.string (bs []),.int .i64 x]) (by simp[results,results29,go_sem];rfl) rfl ⟨rfl,c.alloc c.size _⟩
theorem D1 (s) (w) (y:s.size<=9000) (k:Lib.TabIs prog w "internal/strconv.uint64pow10" .u64 Lib.pow10Tab) (e) (n:PE true (tokens s.data.toList) e []):
  Calls prog 29 #[.string s] w λv p=>v=.returned (.tuple #[.string (bs e.uh),.int .i64 0])/\bg w p:=by
 have l:=zM s w y e n;have x:=gP n;have m:∀(b:World)(c:Option Addr)(d f:Nat)(g:Option Addr)(h i:Nat)(j:List NR),bg w b->ew b (.slice c d f) (.slice g h i) j (opn e 0)->NA [] e 0 j->Calls prog 55 #[cG (.slice c d f) (.slice g h i)] b λv p=>v=.returned (.string (bs e.uh))/\bg b p:=
  λb c d f g h i j o q a=>Qe b c d f g h i j (opn e 0) e q (cC k b o) a.LB ((n.eO (iy _)).1) n.wf a.len.symm (by rw[a.len];omega)
 unfold cG at m l;go_in;go_wp2_with fail;refine l.mono ?_;rintro _ b ⟨c,d,f,g,h,i,j,rfl,o,q,a⟩;have r:=o.alloc o.size (.cells #[.slice c d f,.slice g h i] 59);have z:=q.below ((aM _ b).alloc bS (.cells #[.slice c d f,.slice g h i] 59));go_wp2_with fail;refine (m _ c d f g h i j r z a).mono ?_;rintro _ A ⟨rfl,t⟩;have u:=r.trans (t.mono r.size);go_wp2;refine au (v:=.tuple #[.string (bs e.uh),.int .i64 0]) (by simp[results,results29,go_sem]) rfl ⟨rfl,u⟩
theorem zQ(s)(w)(f)(x:Nat)(h1:Calls prog 29 #[.string s] w λv a=>v=.returned (.tuple #[.string (bs f),.int .i64 x])/\bg w a)(h2:∀a,bg w a->Calls prog 77 #[.string s] a λv c=>v=.returned (.tuple #[.string (bs f),.int .i64 x])/\bg a c):Calls prog 46 #[.string s] w λv a=>v=.returned (.bool true)/\bg w a:=by
 have g:((x:Int)==(x:Int))=true:=by simp
 go_in;go_wp2_with fail;refine h1.mono ?_;rintro _ h ⟨rfl,b⟩;go_wp2_with fail;refine (h2 _ b).mono ?_;rintro _ i ⟨rfl,d⟩;have e:=b.trans (d.mono b.size);go_wp2;go_ret;exact⟨by simp,e⟩
theorem LI (s) (w) (d:s.size<=maxLen) (a:Lib.TabIs prog w "internal/strconv.uint64pow10" .u64 Lib.pow10Tab):Calls prog 46 #[.string s] w λv b=>v=.returned (.bool true)/\bg w b:=by
 by_cases f:9000<s.size
 ·exact zQ s w [] 1 (uY s w 1 0 (by omega) (λw=>ko (.inr ⟨rfl,rfl⟩) s w f d)) (λw _=>DW s w f d)
 ·cases c:jt true s.data.toList with
  |some q=>exact zQ s w [] 2 (uY s w 2 q (by omega) (λw=>kr (.inr ⟨rfl,rfl,rfl,rfl⟩) s w (by omega) q c)) (λw _=>DX s w (by omega) q c)
  |none=>
   obtain⟨e,g⟩:=qv c;exact zQ s w e.uh 0 (D1 s w (by omega) a e g) (λb h=>Jb s b (by omega) (cC a b h) e g c)
open Go.Lib (decDigits)
def Ty.pM:Ty->List Nat
 |.n=>[]
 |.p r a b=>r::(a.pM++b.pM)
def lO:List UInt8->List Nat
 |[]=>[]
 |c::r=>if c=60 then (wm (r.takeWhile (λc=>c !=58))).toNat::lO r else lO r
theorem EP:∀(l r:List UInt8),(∀c∈l,c≠60)->lO (l++r)=lO r
 |[],r,_=>rfl
 |c::l,r,h=>by
  simp[lO];rw[ag (h c (by simp))];exact EP l r (λx a=>h x (by simp[a]))
theorem yJ{c}(h:sV c=true):c≠60/\c≠58:=by
 constructor<;>(intro e;subst e;revert h;decide)
theorem CZ(u:Nat)(r):(decDigits u++58::r).takeWhile (λc=>c !=58)=decDigits u:=by
 have a:=lS u;generalize decDigits u=l at*
 induction l with
 |nil=>simp
 |cons c l b=>
  have:=(yJ (a c (by simp))).2;simp only[aS,List.takeWhile_cons];rw[ah (by simpa using this),b (λx d=>a x (by simp[d]))]
theorem zT:∀(T:Ty)(z:List UInt8),lO (T.txt++z)=T.pM++lO z
 |.n,z=>by simp only[Ty.txt,Ty.pM,aS,bC,lO];rw[ag (by decide)]
 |.p r a b,z=>by
  simp only[Ty.txt,Ty.pM,aS,aB,lO];rw[ah trivial,CZ,uw,bL,EP _ _ (λc d=>(yJ (lS r c d)).1)];simp only[lO];rw[ag (by decide),zT a,zT b];simp only[bC,lO];rw[ag (by decide)]
theorem Tf(T:Ty):lO T.txt=T.pM:=by
 have:=zT T [];simpa [lO] using this
theorem LJ:∀(T:Ty),T.regs->∀(z:List UInt8)(k:Nat),k<T.txt.length->(T.txt++z)[k]?=some 60->∃u rest,u<1000/\(T.txt++z).drop (k+1)=decDigits u++58::rest
 |.n,_,z,k,c,h=>by
  simp only[Ty.txt,bG]at c;have:k=0:=by omega
  subst this;simp[Ty.txt]at h
 |.p r a b,d,z,k,c,h=>by
  simp[Ty.txt]at c;have g:(Ty.p r a b).txt++z=60::(decDigits r++58::(a.txt++(b.txt++62::z))):=by simp[Ty.txt]
  rw[g]at h⊢;cases k with
  |zero=>exact⟨r,a.txt++(b.txt++62::z),d.1,by simp⟩
  |succ k=>
   simp at h;by_cases h1:k<(decDigits r).length
   ·rw[ak h1]at h;exact absurd rfl (yJ (lS r 60 (aq h))).1
   ·rw[aw (by omega)]at h;obtain⟨j,l⟩:∃j,k=(decDigits r).length+j:=⟨k-(decDigits r).length,by omega⟩;subst l;rw[cJ]at h;cases j with
    |zero=>simp at h
    |succ j=>
     simp at h;have m:(60::(decDigits r++58::(a.txt++(b.txt++62::z)))).drop ((decDigits r).length+(j+1)+1+1)=(a.txt++(b.txt++62::z)).drop (j+1):=by
      rw[gK,mr];rw[bF (by omega),bC,show (decDigits r).length+(j+1)+1-(decDigits r).length=(j+1)+1 by omega,gK]
     rw[m];by_cases h2:j<a.txt.length
     ·exact LJ a d.2.1 (b.txt++62::z) j h2 h
     ·rw[aw (by omega)]at h;obtain⟨i,e⟩:∃i,j=a.txt.length+i:=⟨j-a.txt.length,by omega⟩;subst e;rw[cJ]at h;have f:(a.txt++(b.txt++62::z)).drop (a.txt.length+i+1)=(b.txt++62::z).drop (i+1):=by
       rw[mr,bF (by omega),bC,show a.txt.length+i+1-a.txt.length=i+1 by omega]
      rw[f];by_cases h3:i<b.txt.length
      ·exact LJ b d.2.2 (62::z) i h3 h
      ·have e:i=b.txt.length:=by omega
       subst e;simp at h
theorem uZ(T:Ty)(hT:T.fit)(w):Calls prog 112 #[.string (bs T.txt)] w λe w'=>∃v,e=.returned v/\w'.ownsRow w.heap.size 3 1 v T.pM.length (T.pM.map λ(x:Nat)=>Value.int .i64 x)/\bg w w':=by
 obtain⟨i0,hi,hz0,hz1,hz2⟩:=cI iJ;have A:=Fl hT;have o:=LJ T hT.2 [];rw[aN]at o;obtain⟨S,J⟩:=ez (bs T.txt);have hSs:S.size<=1000:=by rw[J,eB];exact A
 have M:S.data.toList=T.txt:=by rw[J];simp[bs]
 have HLT:Hid (∀k,(K:k<S.size)->S[k]=60->∃u rest,u<1000/\S.data.toList.drop (k+1)=decDigits u++58::rest):=by
  intro k K c;rw[M];refine o k (by rw[J,eB]at K;exact K) ?_;subst J;rw[aa (by rw[eB]at K;exact K)];rw[<-c];rfl
 rw[<-J,<-Tf T,<-M];clear J A o hT;go_in;go_wp2;go_loopw [3,4] (λl i wr=>∃(k:Nat)(L:List Nat),k<=S.size/\i=.int .i64 k/\L.length<=k/\wr.ownsRow w.heap.size 3 1 l L.length (L.map λ(x:Nat)=>Value.int .i64 x)/\bg w wr/\L++lO (S.data.toList.drop k)=lO S.data.toList) (λ_ i _=>S.size-(intOf i).toNat)
 case atStart=>exact⟨0,[],ld,rfl,bS,wD,fp,rfl⟩
 case round=>
  obtain⟨k,L,K,rfl,hLl,d,f,C⟩:=hrel;have hsz:=f.size;by_cases o:k<S.size
  ·have z:S.data.toList.drop k=S[k]::S.data.toList.drop (k+1):=by
    rw[aW (by simpa using o)];rfl
   by_cases c:S[k]=60
   ·have q60:((S[k].toNat:Int) !=60)=false:=by rw[c];rfl
    obtain⟨u,rest,X,q⟩:=HLT k o c;have hD:=Mw u X;have B:=lS u;have g:=uw u;have D:=CZ u rest;obtain⟨dg,hdg⟩:=ez (decDigits u);rw[<-hdg]at q hD B g D;have a:lO (S.data.toList.drop k)=u::lO (S.data.toList.drop (k+1)):=by
     rw[z];simp only[lO];rw[ah c,q,D,g,bL]
    have E:S.size=k+1+dg.length+1+rest.length:=by
     have:=congrArg List.length q;simp only[dN,aj,aF,Array.length_toList]at this;have e:S.data.size=S.size:=rfl;omega
    have hat:∀j,(F:j<dg.length)->(hl:k+1+j<S.size)->S[k+1+j]=dg[j]:=by
     intro j F hl;have h1:S.data.toList[k+1+j]?=some dg[j]:=by
      rw[<-List.getElem?_drop,q,ak F,aa F]
     rw[aa (by simp;show k+1+j<S.size;omega)]at h1;exact dx h1
    have N:∀hl:k+1+dg.length<S.size,S[k+1+dg.length]=58:=by
     intro hl;have h1:S.data.toList[k+1+dg.length]?=some 58:=by
      rw[<-List.getElem?_drop,q,aw bS,cx];rfl
     rw[aa (by simp;show k+1+dg.length<S.size;omega)]at h1;exact dx h1
    have Fx:k+1+dg.length<S.size:=by omega
    have G:=a;have O:Hid _:=g;clear z c q a g D E;obtain⟨w5,rfl⟩:∃w5,wr=w5:=⟨_,rfl⟩;go_wp2;go_loopw [5,6] (λn kk wi=>∃j p:Nat,wr=wi/\j<=dg.length/\p=k+1+j/\kk=.int .i64 p/\n=.int .i64 (wm (dg.take j))) (λ_ kk _=>k+1+dg.length-(intOf kk).toNat)
    case atStart=>exact⟨0,k+1,rfl,ld,rfl,by go_num,rfl⟩
    case round=>
     obtain⟨j,p,rfl,F,s,rfl,rfl⟩:=hrel;have Y:=ME dg 0 0 (by omega) (by omega) (by omega) j F;have hp:=UM j (by omega);obtain⟨m,Z⟩:=ez (wm (dg.take j));rw[<-Z]at Y;obtain⟨hb1,hb2⟩:-3000000<=m/\m<=3000000:=by omega
     rw[<-Z];refine bY Z s λHM P=>?_;have Q:p<S.size:=by omega
     clear hp Y Z;by_cases H:j<dg.length
     ·have r:S[p]=dg[j]:=by subst s;exact hat j H Q
      have I:=(yJ (B dg[j] (bZ H))).2;rw[<-r]at I;have q58:((S[p].toNat:Int) !=58)=true:=by rw[show ((S[p].toNat:Int) !=58)=(S[p] !=58) from vq _ 58];simpa using I
      have R:wm (dg.take (j+1))=10*m+(S[p].toNat:Int)-48:=by rw[bQ H,vE,HM.out,r]
      have HS:Hid _:=R;have U:=S[p].toNat_lt;have HC:Hid _:=U;clear r I R U s;go_wp2;go_roundw
      case rel=>
       refine⟨j+1,p+1,by first|rfl|trivial,by omega,by have:=P.out;omega,by go_num,?_⟩;have:=HC.out;rw[HS.out];rw[dI (S[p].toNat:Int) (by omega),dI (10*m+(S[p].toNat:Int)) (by omega),dI _ (by omega)]
      case measure=>have:=P.out;simp[intOf];omega
     ·have V:j=dg.length:=by omega
      have r:S[p]=58:=by subst s;subst V;exact N Q
      have q58:((S[p].toNat:Int) !=58)=false:=by rw[r];rfl
      have hmu:m=u:=by rw[HM.out,V,cw bS];exact O
      subst hmu;clear r s;go_wp2_with (at_builtin;go_must (refine dG _ rfl (.tmp 33) (.tmp 35) 42 rfl w.heap.size 3 i0 _ 1 8 gM hi hz0 hz1 hz2 rfl (by decide) _ L.length (L.map λ(x:Nat)=>Value.int .i64 x) rfl (World.ownsRow.alloc d _) ⟨wr.heap.size,0,none⟩ 1 1 [.int .i64 u] rfl rfl ?c1 ?c2 ?c3 ?c4 ?c5 ?_))
      case c1=>
       intro j u F;rw[<-F];exact dQ _ _ _ _
      case c2=>intro u X;simp at X;subst X;rfl
      case c3=>unfold maxLen;omega
      case c4=>first|omega|(simp;omega)
      case c5=>first|omega|(simp;omega)
      intro v' w4 t y W;have xN:Hid (bg w w4):=(f.alloc hsz _).grown y (by simp;omega) (λb Y=>(cA d b Y).1);have AZ:Hid _:=t;clear t y W;go_wp2;go_roundw
      case rel=>
       refine⟨k+1,L++[u],by omega,by go_num,by simp;omega,?_,xN,?_⟩
       ·have:=AZ;rw[aj,bz];exact this
       ·rw[aB,cQ,<-G];exact C
      case measure=>simp[intOf];omega
   ·have q60:((S[k].toNat:Int) !=60)=true:=by rw[show ((S[k].toNat:Int) !=60)=(S[k] !=60) from vq _ 60];simpa using c
    have a:lO (S.data.toList.drop k)=lO (S.data.toList.drop (k+1)):=by
     rw[z];simp only[lO];rw[ag c]
    have G:Hid _:=a;clear z c a;go_wp2;go_roundw
    case rel=>exact⟨k+1,L,by omega,by go_num,by omega,d,f,by rw[<-G.out];exact C⟩
    case measure=>simp[intOf];omega
  ·have hL:L=lO S.data.toList:=by
    have h:=C;rw[bF (by simp;show S.size<=k;omega)]at h;simpa [lO] using h
   have HL:Hid _:=hL;clear hL;go_wp2;go_ret;rw[<-HL.out];exact⟨_,rfl,d,f⟩
def Ty.has(T:Ty)(a:Int):Bool:=T.pM.any (λx=>(x:Int)==a)
theorem Tg{l:List Nat}{p:Nat->Bool}(a:w<l.length):(l.drop w).any p=(p l[w]||(l.drop (w+1)).any p):=by
 rw[aW a,List.any_cons]
theorem yK(T:Ty)(F:T.fit)(h:Int)(w):Calls prog 72 #[.string (bs T.txt),.int .i64 h] w λe K=>e=.returned (.bool (T.has h))/\bg w K:=by
 have s:=λw=>uZ T F w;have L:T.pM.length<=127:=by
  have h1:∀T:Ty,T.pM.length=T.size:=by
   intro T;induction T with
   |n=>rfl
   |p r a b t u=>simp only[Ty.pM,Ty.size,aF,aj,t,u]
  rw[h1];exact F.1
 obtain⟨l,c⟩:=ez (T.has h);rw[<-c];unfold Ty.has at c;generalize T.pM=R at*;go_in;go_wp2_with fail;refine (s _).mono ?_;rintro _ o ⟨v,rfl,d,G⟩;obtain⟨y,H,z⟩:∃y H,v=.slice y R.length H:=by
  rcases d.2 with⟨h1,h2⟩|⟨g,A,B,h1,_⟩
  ·exact⟨none,0,by rw[h1,h2]⟩
  ·exact⟨_,_,h1⟩
 have C:Hid (∀j,(D:j<R.length)->∃g,y=some ⟨g,0,none⟩/\g<o.heap.size/\cg o g j (.int .i64 R[j])):=by
  intro j D;rcases d.2 with⟨h1,h2⟩|⟨g,A,B,h1,_⟩
  ·omega
  ·rw[z]at h1;simp only[bN]at h1;have I:=d;rw[z,h1.1]at I;have q:o.cell? ⟨g,j,none⟩=some (.int .i64 R[j]):=by rw[I.cellAt j (by omega),aC,aa D];rfl
   exact⟨g,h1.1,aR _ _ q,q⟩
 subst z;go_wp2;go_loopw [6] (λi wr=>∃j:Nat,o=wr/\j<=R.length/\i=.int .i64 j/\R.any (λx=>(x:Int)==h)=(R.drop j).any (λx=>(x:Int)==h)) (λi _=>R.length-(intOf i).toNat)
 case atStart=>exact⟨0,rfl,ld,rfl,rfl⟩
 case round=>
  obtain⟨j,rfl,D,rfl,f⟩:=hrel;by_cases m:j<R.length
  ·obtain⟨g,M,N,q⟩:=C j m;subst M;have k:=Tg (p:=λx=>(x:Int)==h) m;obtain⟨x,O⟩:=ez (R[j]);rw[<-O]at q k;cases J:((x:Int)==h) with
   |true=>
    have E:l=true:=by rw[c,f,k,J];exact rfl
    go_wp2;go_ret;exact⟨by rw[E];rfl,G⟩
   |false=>
    have P:(R.drop j).any (λx=>(x:Int)==h)=(R.drop (j+1)).any (λx=>(x:Int)==h):=by rw[k,J];exact rfl
    go_wp2;go_roundw
    case rel=>exact⟨j+1,by first|rfl|trivial,by omega,by go_num,by rw[f,P]⟩
    case measure=>simp[intOf];omega
  ·have E:l=false:=by rw[c,f,bF (by omega)];exact rfl
   go_wp2;go_ret;exact⟨by rw[E];rfl,G⟩
structure XK(w:World)(g:Nat)(rl:List Rec): Prop where
 gl:g<w.heap.size
 at_:∀(i:Nat)(r:Rec),rl[i]?=some r->∃b,w.cell? ⟨g,i,none⟩=some (.pointer (some ⟨b,0,none⟩))/\isRec w b r
 sm:∀r∈rl,r.id<=9000/\r.last<=9000/\r.p<=9000
theorem XK.drew(h:XK b w a)(m:Nat):XK (b.drewN m) w a:=⟨h.gl,h.at_,h.sm⟩
theorem gF{r}(h:isRec b w r):b.cell? ⟨w,0,none⟩=some (.string (bs r.op))/\b.cell? ⟨w,1,none⟩=some (.int .i64 r.p)/\b.cell? ⟨w,3,none⟩=some (.int .i64 r.n)/\b.cell? ⟨w,5,none⟩=some (.int .i64 r.id)/\b.cell? ⟨w,6,none⟩=some (.int .i64 r.last)/\w<b.heap.size:=by
 obtain⟨c,a⟩:=h;exact⟨by rw[aI a];rfl,by rw[aI a];rfl,by rw[aI a];rfl,by rw[aI a];rfl,by rw[aI a];rfl,aG a⟩
def Wj(w:World)(g:Nat)(a:Option Nat)(p:Option Addr):Prop:=match a with
 |none=>p=none
 |some i=>w.cell? ⟨g,i,none⟩=some (.pointer p)
def pV(c:List Rec)(a:Option Nat)(r:Rec):Bool:=match a with
 |none=>true
 |some b=>match c[b]? with
  |some d=>decide (r.id<d.id)
  |none=>true
def oF(r:Rec):Bool:=r.op==[110,101,119]
def D2(r:Rec):Bool:=r.op==[112,97,105,114]
def Nz(b:List Rec)(c:Int)(a:Option Nat)(i:Nat):Option Nat:=match b[i]? with
 |some r=>if oF r&&(r.n==c)&&pV b a r then some i else a
 |none=>a
def ml(a:List Rec)(b:Int):Nat->Option Nat
 |0=>none
 |k+1=>Nz a b (ml a b k) k
theorem C0(a)(c:Int):∀k b,k<=a.length->ml a c k=some b->b<k
 |0,b,_,h=>by simp[ml]at h
 |k+1,b,d,h=>by
  simp[ml,Nz]at h;rw[aa (by omega)]at h;simp only at h;split at h
  ·cases h;omega
  ·have:=C0 a c k b (by omega) h;omega
theorem yL(h:XK b w a){p}(e:Wj b w c p)(k:∀d,c=some d->d<a.length):(c=none/\p=none)\/∃i d f,c=some i/\p=some ⟨d,0,none⟩/\a[i]?=some f/\isRec b d f:=by
 cases c with
 |none=>exact aD ⟨rfl,e⟩
 |some i=>
  have j:=k i rfl;obtain⟨d,h1,h2⟩:=h.at_ i a[i] (aa j);simp[Wj]at e;rw[h1]at e;simp[Value.pointer.injEq]at e;exact aE ⟨i,d,a[i],rfl,e.symm,aa j,h2⟩
theorem LK(w)(g A:Nat)(a)(c:Int)(h:XK w g a)(S:a.length<=9000):Calls prog 145 #[.slice (some ⟨g,0,none⟩) a.length A,.int .i64 c] w λe L=>∃p m,e=.returned (.pointer p)/\Wj w g (ml a c a.length) p/\L=w.drewN m:=by
 have T:=h.gl;go_in;go_wp2;go_loopw [5,6] (λv i wr=>∃(k m:Nat)(p:Option Addr),wr=w.drewN m/\k<=a.length/\i=.int .i64 k/\v=.pointer p/\Wj w g (ml a c k) p) (λ_ i _=>a.length-(intOf i).toNat)
 case atStart=>exact⟨0,0,none,rfl,ld,rfl,rfl,rfl⟩
 case round=>
  obtain⟨k,m,p,rfl,U,rfl,rfl,x⟩:=hrel;by_cases t:k<a.length
  ·obtain⟨b,G,q⟩:=h.at_ k a[k] (aa t);obtain⟨M,H,N,O,I,P⟩:=gF q;have d:ml a c (k+1)=if oF a[k]&&(a[k].n==c)&&pV a (ml a c k) a[k] then some k else ml a c k:=by
    simp only[ml,Nz];rw[aa t]
   have B:=h.sm a[k] (bZ t);obtain⟨r,J⟩:=ez (a[k]);rw[<-J]at M H N O I d B;have s:((bs r.op).toList==[110,101,119])=oF r:=by rw[bo];rfl
   clear J q H I;have next:∀(C:Bool),(oF r&&(r.n==c)&&pV a (ml a c k) r)=C->Hid (ml a c (k+1)=if C then some k else ml a c k):=by
    intro C h2;rw[d,h2];exact rfl
   have f:Hid _:=next
   cases u:oF r with
   |false=>
    rw[u]at s;have j:=(f false (by rw[u];rfl));go_wp2;go_quiet (fail);go_wp2;go_roundw
    case rel=>exact⟨k+1,_,p,rfl,by omega,by go_num,rfl,by rw[j];exact x⟩
    case measure=>simp[intOf];omega
   |true=>
    rw[u]at s;cases l:(r.n==c) with
    |false=>
     have j:=(f false (by rw[u,l];rfl));go_wp2;go_quiet (fail);go_wp2;go_roundw
     case rel=>exact⟨k+1,_,p,rfl,by omega,by go_num,rfl,by rw[j];exact x⟩
     case measure=>simp[intOf];omega
    |true=>
     rcases (yL h x (λb Q=>by have:=C0 a c k b (by omega) Q;omega)) with⟨o,rfl⟩|⟨i,V,D,o,rfl,y,E⟩
     ·have j:=(f true (by rw[u,l,o];rfl));go_wp2;go_quiet (fail);go_wp2;go_roundw
      case rel=>exact⟨k+1,_,_,rfl,by omega,by go_num,rfl,by rw[j];exact G⟩
      case measure=>simp[intOf];omega
     ·obtain⟨_,_,_,W,_,K⟩:=gF E;by_cases hid:r.id<D.id
      ·have j:=(f true (by rw[u,l,o];simp only[pV];rw[y];simp[hid]));have z:(r.id:Int)<(D.id:Int):=by omega
       go_wp2;go_quiet (fail);go_wp2;go_roundw
       case rel=>exact⟨k+1,_,_,rfl,by omega,by go_num,rfl,by rw[j];exact G⟩
       case measure=>simp[intOf];omega
      ·have j:=(f false (by rw[u,l,o];simp only[pV];rw[y];simp;omega));have z:¬(r.id:Int)<(D.id:Int):=by omega
       go_wp2;go_quiet (fail);go_wp2;go_roundw
       case rel=>exact⟨k+1,_,_,rfl,by omega,by go_num,rfl,by rw[j];exact x⟩
       case measure=>simp[intOf];omega
  ·have F:k=a.length:=by omega
   have R:Wj w g (ml a c a.length) p:=by rw[<-F];exact x
   go_wp2;go_ret;exact⟨p,_,rfl,R,rfl⟩
def rP(b:List Rec)(a:Option Nat)(i:Nat):Option Nat:=match b[i]? with
 |some r=>if pV b a r then some i else a
 |none=>a
theorem Jq(e:∀b,c=some b->b<a.length)(d:w<a.length):∀b,rP a c w=some b->b<a.length:=by
 intro b h;unfold rP at h;rw[aa d]at h;simp only at h;split at h
 ·cases h;exact d
 ·exact e b h
theorem Gi(w)(g:Nat)(c)(h:XK w g c)(a)(p q)(i:Nat)(t:i<c.length)(A:Wj w g a p)(D:∀b,a=some b->b<c.length)(u:w.cell? ⟨g,i,none⟩=some (.pointer q))(m0:Nat):Calls prog 146 #[.pointer p,.pointer q] (w.drewN m0) λe E=>∃B m,e=.returned (.pointer B)/\Wj w g (rP c a i) B/\E=w.drewN m:=by
 obtain⟨b,v,k⟩:=h.at_ i c[i] (aa t);obtain⟨_,_,_,H,_,F⟩:=gF k;rw[v]at u;simp only[ai,Value.pointer.injEq]at u;subst u;have G:=h.sm c[i] (bZ t);have d:rP c a i=if pV c a c[i] then some i else a:=by unfold rP;rw[aa t]
 rcases yL h A D with⟨f,rfl⟩|⟨j,I,s,f,rfl,x,y⟩
 ·have l:rP c a i=some i:=by rw[d,f];exact rfl
  generalize c[i]=r at*;go_in;go_wp2;go_quiet (fail);go_wp2;go_ret;exact⟨_,_,rfl,by rw[l];exact v,gE _ _ _⟩
 ·obtain⟨_,_,_,J,_,C⟩:=gF y;have z:pV c a c[i]=decide (c[i].id<s.id):=by rw[f];simp only[pV];rw[x]
  rw[z]at d;have n:Hid _:=d;generalize c[i]=r at*;by_cases hid:r.id<s.id
  ·have l:Hid (rP c a i=some i):=by rw[n.out,ah (by simpa using hid)];exact rfl
   have o:(r.id:Int)<(s.id:Int):=by omega
   go_in;go_wp2;go_quiet (fail);go_wp2;go_ret;exact⟨_,_,rfl,by rw[l.out];exact v,gE _ _ _⟩
  ·have l:Hid (rP c a i=a):=by rw[n.out,ag (by simpa using hid)];exact rfl
   have o:¬(r.id:Int)<(s.id:Int):=by omega
   go_in;go_wp2;go_quiet (fail);go_wp2;go_ret;exact⟨_,_,rfl,by rw[l.out];exact A,gE _ _ _⟩
def wq(a:List Rec)(r:Rec):Bool:=match ml a r.n a.length with
 |some o=>match a[o]? with
  |some b=>oF r&&(r.id !=b.id)
  |none=>false
 |none=>false
def lP(a:List Rec)(r:Rec):Bool:=match ml a r.n a.length with
 |some o=>match a[o]? with
  |some b=>D2 r&&(decide (r.id<b.id)||decide (b.last<r.id))
  |none=>false
 |none=>false
def LL(a:List Rec):Nat->Option Nat
 |0=>none
 |k+1=>match a[k]? with
  |some r=>if wq a r then rP a (LL a k) k else LL a k
  |none=>LL a k
def xC(a:List Rec):Nat->Option Nat
 |0=>none
 |k+1=>match a[k]? with
  |some r=>if lP a r then rP a (xC a k) k else xC a k
  |none=>xC a k
theorem Gj(a):∀k,k<=a.length->∀b,LL a k=some b->b<a.length
 |0,_,b,h=>by simp[LL]at h
 |k+1,d,b,h=>by
  have c:k<a.length:=by omega
  simp[LL]at h;rw[aa c]at h;simp only at h;split at h
  ·exact Jq (Gj a k (by omega)) c b h
  ·exact Gj a k (by omega) b h
theorem Bh(a):∀k,k<=a.length->∀b,xC a k=some b->b<a.length
 |0,_,b,h=>by simp[xC]at h
 |k+1,d,b,h=>by
  have c:k<a.length:=by omega
  simp[xC]at h;rw[aa c]at h;simp only at h;split at h
  ·exact Jq (Bh a k (by omega)) c b h
  ·exact Bh a k (by omega) b h
def gR(a:List Rec):Nat×Nat:=match LL a a.length with
 |some i=>(7,((a[i]?).map (·.p)).getD 0)
 |none=>match xC a a.length with
  |some i=>(8,((a[i]?).map (·.p)).getD 0)
  |none=>(0,0)
theorem LM(w)(g W:Nat)(a)(h:XK w g a)(hl:a.length<=9000):Calls prog 117 #[.slice (some ⟨g,0,none⟩) a.length W] w λe w'=>∃m,e=.returned (.tuple #[.int .i64 (gR a).1,.int .i64 (gR a).2])/\w'=w.drewN m:=by
 have hop:=λrg m=>LK (w.drewN m) g W a rg (h.drew m) hl;have X:=λY p q i hi H hb R m=>Gi w g a h Y p q i hi H hb R m;have U:=h;have hg:=h.gl;obtain⟨S,C⟩:=ez (gR a);rw[<-C];go_in;go_wp2;go_loopw [4,5,6] (λtw out i wr=>∃(k m:Nat)(p q:Option Addr),wr=w.drewN m/\k<=a.length/\i=.int .i64 k/\tw=.pointer p/\out=.pointer q/\Wj w g (LL a k) p/\Wj w g (xC a k) q) (λ_ _ i _=>a.length-(intOf i).toNat)
 case atStart=>exact⟨0,0,none,none,rfl,ld,rfl,rfl,rfl,rfl,rfl⟩
 case round=>
  obtain⟨k,m,p,q,rfl,hk,rfl,rfl,rfl,H,R⟩:=hrel;by_cases D:k<a.length
  ·obtain⟨b,c1,N⟩:=U.at_ k a[k] (aa D);obtain⟨a0,a1,a3,a5,a6,hbl⟩:=gF N;have c:LL a (k+1)=if wq a a[k] then rP a (LL a k) k else LL a k:=by simp only[LL];rw[aa D]
   have d:xC a (k+1)=if lP a a[k] then rP a (xC a k) k else xC a k:=by simp only[xC];rw[aa D]
   have FZ:=U.sm a[k] (bZ D);obtain⟨r,hr⟩:=ez (a[k]);rw[<-hr]at a0 a1 a3 a5 a6 c d FZ;have O:((bs r.op).toList==[110,101,119])=oF r:=by rw[bo];rfl
   have T:((bs r.op).toList==[112,97,105,114])=D2 r:=by rw[bo];rfl
   have ho:=hop r.n m;refine bY R c1 λV Z=>?_;clear hr N R;go_wp2_with fail;refine ho.mono ?_;rintro _ _ ⟨po,m1,rfl,hpo,rfl⟩;have L:=yL U (p:=po) hpo (λb hb=>C0 a r.n a.length b bS hb);clear ho hpo;rcases L with⟨z,rfl⟩|⟨j,bb,s,z,rfl,f,hro⟩
   ·have I:Hid (wq a r=false):=by unfold wq;rw[z];exact rfl
    have E:Hid (lP a r=false):=by unfold lP;rw[z];exact rfl
    clear z;go_wp2;go_roundw
    case rel=>exact⟨k+1,_,p,q,rfl,by omega,by go_num,rfl,rfl,by rw[c,I.out];exact H,by rw[d,E.out];exact V.out⟩
    case measure=>simp[intOf];omega
   ·obtain⟨_,_,_,d5,d6,P⟩:=gF hro;have hT:wq a r=(oF r&&(r.id !=s.id)):=by unfold wq;rw[z];simp only;rw[f]
    have hO:lP a r=(D2 r&&(decide (r.id<s.id)||decide (s.last<r.id))):=by unfold lP;rw[z];simp only;rw[f]
    have aeX:=U.sm s (aq f);refine bY hT hO λI E=>?_;have J:oF r=true->D2 r=false:=by
     intro h1;unfold oF at h1;unfold D2;rw[iQ]at h1;rw[h1];decide
    have A:Hid _:=J;clear z f hro hT hO J;have Q:((r.id:Int) !=(s.id:Int))=(r.id !=s.id):=by
     by_cases e:r.id=s.id
     ·rw[e];simp
     ·have h1:(r.id !=s.id)=true:=by simpa using e
      rw[h1];simp;omega
    cases G:oF r with
    |true=>
     have M:=A G;rw[G]at O;rw[M]at T;have l:Hid (lP a r=false):=by rw[E.out,M];exact rfl
     cases F:(r.id !=s.id) with
     |true=>
      rw[F]at Q;have u:Hid (wq a r=true):=by rw[I.out,G,F];exact rfl
      have x:=X (LL a k) p (some ⟨b,0,none⟩) k D H (Gj a k (by omega)) Z;clear G M F I E A;go_wp2;go_quiet (fail);go_wp2_with (go_at_call 146;refine (x _).mono ?_;rintro _ _ ⟨p2,m2,rfl,y,rfl⟩);have K:Hid _:=y;clear y x;go_quiet (fail);go_wp2;go_roundw
      case rel=>exact⟨k+1,_,p2,q,rfl,by omega,by go_num,rfl,rfl,by rw[c,u.out];exact K.out,by rw[d,l.out];exact V.out⟩
      case measure=>simp[intOf];omega
     |false=>
      rw[F]at Q;have u:Hid (wq a r=false):=by rw[I.out,G,F];exact rfl
      clear G M F I E A;go_wp2;go_quiet (fail);go_wp2;go_quiet (fail);go_wp2;go_roundw
      case rel=>exact⟨k+1,_,p,q,rfl,by omega,by go_num,rfl,rfl,by rw[c,u.out];exact H,by rw[d,l.out];exact V.out⟩
      case measure=>simp[intOf];omega
    |false=>
     rw[G]at O;have u:Hid (wq a r=false):=by rw[I.out,G];exact rfl
     have t:lP a r=false->Hid (lP a r=false):=λh=>h;cases o:D2 r with
     |false=>
      rw[o]at T;have l:Hid (lP a r=false):=by rw[E.out,o];exact rfl
      clear G o I E A t;go_wp2;go_quiet (fail);go_wp2;go_quiet (fail);go_wp2;go_roundw
      case rel=>exact⟨k+1,_,p,q,rfl,by omega,by go_num,rfl,rfl,by rw[c,u.out];exact H,by rw[d,l.out];exact V.out⟩
      case measure=>simp[intOf];omega
     |true=>
      rw[o]at T;have x:=X (xC a k) q (some ⟨b,0,none⟩) k D V (Bh a k (by omega)) Z;by_cases h1:r.id<s.id
      ·have l:Hid (lP a r=true):=(show lP a r=true by rw[E.out,o];simp[h1]);have hz:(r.id:Int)<(s.id:Int):=by omega
       clear G o I E A t h1;go_wp2;go_quiet (fail);go_wp2;go_quiet (fail);go_wp2_with (go_at_call 146;refine (x _).mono ?_;rintro _ _ ⟨p2,m2,rfl,y,rfl⟩);have K:Hid _:=y;clear y x;go_roundw
       case rel=>exact⟨k+1,_,p,p2,rfl,by omega,by go_num,rfl,rfl,by rw[c,u.out];exact H,by rw[d,l.out];exact K.out⟩
       case measure=>simp[intOf];omega
      ·have hz:¬(r.id:Int)<(s.id:Int):=by omega
       have hzd:decide ((r.id:Int)<(s.id:Int))=false:=by simpa using hz
       have hzn:decide (r.id<s.id)=false:=by simpa using h1
       have hzf:(r.id<s.id)=False:=by simpa using h1
       have hzl:s.id<=r.id:=by omega
       by_cases h2:s.last<r.id
       ·have l:Hid (lP a r=true):=(show lP a r=true by rw[E.out,o];simp[h2]);have hz2:(s.last:Int)<(r.id:Int):=by omega
        clear G o I E A t h1 h2;go_wp2;go_quiet (fail);go_wp2;go_quiet (fail);go_wp2_with (go_at_call 146;refine (x _).mono ?_;rintro _ _ ⟨p2,m2,rfl,y,rfl⟩);have K:Hid _:=y;clear y x;go_roundw
        case rel=>exact⟨k+1,_,p,p2,rfl,by omega,by go_num,rfl,rfl,by rw[c,u.out];exact H,by rw[d,l.out];exact K.out⟩
        case measure=>simp[intOf];omega
       ·have l:Hid (lP a r=false):=(show lP a r=false by rw[E.out,o];simp;omega);have hz2:¬(s.last:Int)<(r.id:Int):=by omega
        clear G o I E A t h1 h2 x;go_wp2;go_quiet (fail);go_wp2;go_quiet (fail);go_wp2;go_roundw
        case rel=>exact⟨k+1,_,p,q,rfl,by omega,by go_num,rfl,rfl,by rw[c,u.out];exact H,by rw[d,l.out];exact V.out⟩
        case measure=>simp[intOf];omega
  ·have hke:k=a.length:=by omega
   rw[hke]at H R;have b1:=yL U H (Gj a a.length bS);have b2:=yL U R (Bh a a.length bS);clear R hke;rcases b1 with⟨h1,rfl⟩|⟨i,bb,rb,h1,rfl,f,B⟩
   ·rcases b2 with⟨h2,rfl⟩|⟨i,bb,rb,h2,rfl,f,B⟩
    ·have HA:Hid (S=(0,0)):=by rw[C];unfold gR;rw[h1,h2];exact rfl
     clear h1 h2;go_wp2;refine au (v:=.tuple #[.int .i64 0,.int .i64 0]) (by simp[results,results117,go_sem]) rfl ⟨_,by rw[HA.out];rfl,by first|rfl|exact gE _ _ _⟩
    ·obtain⟨_,d1,_⟩:=gF B;have P:=(gF B).2.2.2.2.2;have HA:Hid (S=(8,rb.p)):=by rw[C];unfold gR;rw[h1,h2];simp only;rw[f];exact rfl
     clear h1 h2 f B;go_wp2;go_quiet (fail);go_wp2;refine au (v:=.tuple #[.int .i64 8,.int .i64 rb.p]) (by simp[results,results117,go_sem]) rfl ⟨_,by rw[HA.out];rfl,by first|rfl|exact gE _ _ _⟩
   ·obtain⟨_,d1,_⟩:=gF B;have P:=(gF B).2.2.2.2.2;have HA:Hid (S=(7,rb.p)):=by rw[C];unfold gR;rw[h1];simp only;rw[f];exact rfl
    clear h1 f B b2;go_wp2;go_quiet (fail);go_wp2;refine au (v:=.tuple #[.int .i64 7,.int .i64 rb.p]) (by simp[results,results117,go_sem]) rfl ⟨_,by rw[HA.out];rfl,by first|rfl|exact gE _ _ _⟩
