import Derived.Test.YtpicaknklgccoaaGreatDoorK37
set_option maxHeartbeats 4000000
set_option maxRecDepth 100000
namespace Go.Proofs.YtpicaknklgccoaaGreatDoor
open Go.RowKit
open Go.Lib (decDigits)
variable {w a x y:Ty}{b c:gH}
theorem CM(a b:Int):∀(l:List UInt8)(c:UInt8),c∈l.take (run a b l)->ug a b c=true
 |[],c,h=>by simp at h
 |d::r,c,h=>by
  simp[run]at h;split at h
  ·rename_i e;rw[cY,bf]at h;rcases h with h|h
   ·rw[h];exact e
   ·exact CM a b r c h
  ·simp at h
theorem CN:∀(l:List UInt8)(a:Int),(∀c∈l,ug 48 57 c=true)->0<=a->0<=l.foldl (λn c=>if c=35 then n else 10*n+(c.toNat:Int)-48) a/\l.foldl (λn c=>if c=35 then n else 10*n+(c.toNat:Int)-48) a<=(a+1)*((10 ^ l.length:Nat):Int)-1
 |[],a,_,h=>by simp;omega
 |c::r,a,d,h=>by
  have f:=d c (by simp);simp[ug]at f;have b:c≠35:=by intro e;subst e;simp at f
  have j:=CN r (10*a+(c.toNat:Int)-48) (λx g=>d x (by simp[g])) (by omega);simp only[List.foldl_cons,ag b,aF];have e:((10 ^ (r.length+1):Nat):Int)=10*((10 ^ r.length:Nat):Int):=by rw[Nat.pow_succ];omega
  rw[e];have i:(0:Int)<=((10 ^ r.length:Nat):Int):=Int.natCast_nonneg _;have h2:(10*a+(c.toNat:Int)-48+1)<=(a+1)*10:=by omega
  have h3:=Int.mul_le_mul_of_nonneg_right h2 i;rw[Int.mul_assoc]at h3;omega
def rT(t:Tk):Prop:=(t.c=.num->0<=aQ t.s/\aQ t.s<=9999)/\(t.c=.wB->t.s.length<=9000)
theorem SK(l):((bX l).2=.num->0<=aQ (l.take (bX l).1)/\aQ (l.take (bX l).1)<=9999)/\((bX l).2=.wB->(bX l).1<=9000):=by
 unfold bX;split
 ·refine⟨λh=>?_,λh=>?_⟩
  ·simp[js]at h;split at h
   ·simp at h
   ·split at h<;>simp at h
  ·simp[js]at h;split at h
   ·simp at h
   ·split at h
    ·simp only;omega
    ·simp at h
 ·split
  ·refine⟨λh=>?_,λh=>?_⟩
   ·split at h
    ·rename_i a;simp only[fk,cu,bW]at a;have d:=CN (l.take (run 48 57 l)) 0 (λc b=>CM 48 57 l c b) (by omega);have e:10 ^ (l.take (run 48 57 l)).length<=10 ^ 4:=Nat.pow_le_pow_right (by omega) a.1.2;unfold aQ;simp only;omega
    ·simp at h
   ·split at h<;>simp at h
  ·split
   ·simp
   ·split
    ·refine⟨λh=>?_,λh=>?_⟩<;>(simp only at h;split at h<;>simp at h)
    ·refine⟨λh=>?_,λ_=>by simp⟩;split at h
     ·simp at h
     ·split at h<;>simp at h
theorem iy(l):∀t∈tokens l,rT t:=by
 intro t a;obtain⟨b,_,c,d⟩:=pz _ _ _ t a;have h:=SK b;unfold rT;rw[c,d];exact⟨h.1,λe=>by have:=h.2 e;simp;omega⟩
mutual
theorem PE.eO{c}:∀{l:List Tk}{e:PT}{r:List Tk},PE c l e r->(∀t∈l,rT t)->e.eO/\∀t∈r,rT t
 |_,_,_,.num (t:=t) h,d=>⟨by simp only[PT.eO];exact (d t (by simp)).1 h,λx f=>d x (by simp[f])⟩
 |_,_,_,.name (t:=t) h,d=>⟨by simp only[PT.eO];exact (d t (by simp)).2 h,λx f=>d x (by simp[f])⟩
 |_,_,_,.node _ _ _ j,d=>by
  have h:=PW.eO j (λx f=>d x (by simp[f]));exact⟨by simp only[PT.eO];exact⟨h.1,h.2.1⟩,h.2.2⟩
theorem PW.eO{c}:∀{k:List Wt}{l:List Tk}{i m:List UInt8}{g:List PT}{r:List Tk},PW c k l i m g r->(∀t∈l,rT t)->i.length<=9000/\gJ g/\∀t∈r,rT t
 |_,_,_,_,_,_,.nil,d=>⟨by simp,by simp[gJ],d⟩
 |_,_,_,_,_,_,.close _ h1,d=>PW.eO h1 (λx f=>d x (by simp[f]))
 |_,_,_,_,_,_,.name (t:=t) h h1,d=>by
  have n:=PW.eO h1 (λx f=>d x (by simp[f]));exact⟨(d t (by simp)).2 h,n.2⟩
 |_,_,_,_,_,_,.region _ h1,d=>PW.eO h1 (λx f=>d x (by simp[f]))
 |_,_,_,_,_,_,.e o h1,d=>by
  have a:=PE.eO o d;have b:=PW.eO h1 a.2;exact⟨b.1,by simp only[gJ];exact⟨a.1,b.2.1⟩,b.2.2⟩
end
open Tryz
theorem sL:∀{b:List PT},gJ b->∀t∈b,t.eO
 |[],_,t,h=>by simp at h
 |a::r,c,t,h=>by
  rcases bf.1 h with h|h
  ·rw[h];exact c.1
  ·exact sL c.2 t h
theorem xz:∀(b:List PT)(i:Nat),gJ b->gJ (b.take i)
 |[],i,_=>by simp[gJ]
 |a::r,0,_=>by simp[gJ]
 |a::r,i+1,h=>by simp[gJ]at h;simp[gJ];exact⟨h.1,xz r i h.2⟩
theorem EJ:∀(b:List PT)(t:PT),pS (b++[t])=pS b++[t.uh]
 |[],t=>by simp[pS]
 |a::r,t=>by simp[pS,EJ r t]
def ud(k:Kw)(b:List UInt8)(a:List PT)(j:Nat):List UInt8:=40::(k.bytes++gB k b 0 (pS (a.take j)))
theorem P1(k)(b)(a)(j:Nat)(x)(c:a[j]?=some x):ud k b a (j+1)=ud k b a j++lK k b j x.uh:=by
 have d:=(ae.1 c).1;unfold ud;rw[cW,c];simp only[eT];rw[EJ,s9,BM,cS,dL (by omega),bJ];simp
theorem SL(k)(b)(a)(j:Nat)(c:b.length<=9000)(d:gJ a)(e:aU a<=9000):(ud k b a j).length<=180000005:=by
 have h1:=zq k b (a.take j) 0 c (xz a j d);have h2:=j1 a j;have h3:k.bytes.length<=4:=by cases k<;>decide
 unfold ud;simp;omega
theorem SN(p:Nat)(k)(b c)(a)(d:k≠.new):ud k b a a.length++[41]=(PT.node p k b c a).uh:=by
 unfold ud;simp[PT.uh,d]
theorem P2(Q)(p:Nat)(k)(d rg)(a)(G:k≠.new)(ih:∀x∈a,wS Q x):wS Q (.node p k d rg a):=by
 intro id site b F m o q hT w g;obtain⟨va,vc,⟨y0,y2,y4⟩,r,hk⟩:=lL hT;have x0:=(g.cell (p:=⟨b,0,none⟩) r).trans y0;have x2:=(g.cell (p:=⟨b,2,none⟩) r).trans y2;have x4:=(g.cell (p:=⟨b,4,none⟩) r).trans y4;have h1:((bs k.bytes).toList==[110,117,109,98,101,114])=false:=by rw[bo];cases k<;>decide
 have h2:((bs k.bytes).toList==[110,97,109,101])=false:=by rw[bo];cases k<;>decide
 have h3:((bs k.bytes).toList==[110,101,119])=false:=by rw[bo];cases k<;>first|decide|exact absurd rfl G
 obtain⟨U,hp⟩:∃U,((bs k.bytes).toList==[112,97,105,114])=U:=⟨_,rfl⟩;obtain⟨s,hl⟩:∃s,((bs k.bytes).toList==[108,101,116])=s:=⟨_,rfl⟩;obtain⟨t,ho⟩:∃t,((bs k.bytes).toList==[108,111,111,112])=t:=⟨_,rfl⟩;have V:s=decide (k=.dV):=by rw[<-hl,bo];cases k<;>decide
 have W:t=decide (k=.loop):=by rw[<-ho,bo];cases k<;>decide
 have H:¬(s=true/\t=true):=by rw[V,W];cases k<;>simp
 simp only[PT.cnt]at m;simp only[PT.eO]at o;simp only[PT.wf]at q;have hkl:a.length<=9000:=by have:=xX a;omega
 have I:=λj=>SL k d a j o.1 o.2 (by omega);have X:=o.1;have Y:k.bytes.length<=4:=by cases k<;>decide
 have n:∀j x,a[j]?=some x->∀C,bg Q C->∃u D,va=some ⟨u,0,none⟩/\u<Q.heap.size/\cg C u j (.pointer (some ⟨D,0,none⟩))/\
   Calls prog 41 #[.pointer (some ⟨D,0,none⟩),.slice none 0 0,.slice none 0 0] C (λe Z=>e=.returned (.string (bs x.uh))/\bg C Z)/\x.uh.length<=180000000:=by
  intro j x y C J;obtain⟨u,D,id',z,QH,hg,hc,Uo⟩:=hk j x y;have R:=aq y;have Mx:x.cnt<=9000:=by
   have h1:=j1 a (j+1);rw[cW,y]at h1;simp only[eT]at h1;rw[lU]at h1;omega
  have K:=A7 x (sL o.2 x R);exact⟨u,D,QH,hg,(J.cell (p:=⟨u,j,none⟩) hg).trans hc,ih x R id' z D F Mx (sL o.2 x R) (s7 q.2 x R) Uo C J,by omega⟩
 have L:=g.size;have M:=SN p k d rg a G;refine bY V W λS T=>?_;have z1:(ByteArray.mk #[40]).size=1:=rfl;have z2:(bs k.bytes).size<=4:=by rw[eB];exact Y
 have z3:(bs d).size<=9000:=by rw[eB];exact X
 have e0:ByteArray.mk #[40]++bs k.bytes=bs (ud k d a 0):=by
  rw[show ByteArray.mk #[40]=bs [40] from rfl,eM];simp[ud,pS,gB]
 clear hT hk o q y0 y2 y4 ih V W m;show Calls _ _ #[Value.pointer (some ⟨b,0,none⟩),_,_] w _;go_in;cases U<;>go_wp2_with fail
 all_goals
  go_loopw [7,8] (λv i wr=>∃j:Nat,j<=a.length/\i=.int .i64 j/\v=.string (bs (ud k d a j))/\bg w wr) (λ_ i _=>a.length-(intOf i).toNat)
  case atStart=>exact⟨0,by omega,rfl,by rw[<-e0],fp⟩
  case round=>
   obtain⟨j,hj,rfl,rfl,c⟩:=hrel;have A:=c.size;have q0:=(c.cell (p:=⟨b,0,none⟩) (by simp only;omega)).trans x0;have q2:=(c.cell (p:=⟨b,2,none⟩) (by simp only;omega)).trans x2;have q4:=(c.cell (p:=⟨b,4,none⟩) (by simp only;omega)).trans x4;have zA:(bs (ud k d a j)).size<=180000005:=by rw[eB];exact I j
   have z4:(ByteArray.mk #[32]).size=1:=rfl;have z5:(ByteArray.mk #[41]).size=1:=rfl;by_cases hlt:j<a.length
   ·obtain⟨x,y⟩:∃x,a[j]?=some x:=⟨a[j],aa hlt⟩;obtain⟨u,D,rfl,hg,hc,f,K⟩:=n j x y wr (g.trans (c.mono L));have zB:(bs (ud k d a j)++ByteArray.mk #[32]).size<=180000006:=by rw[aX];omega
    have zC:(bs (ud k d a j)++ByteArray.mk #[32]++bs d).size<=180009006:=by rw[aX];omega
    have zD:(bs (ud k d a j)++ByteArray.mk #[32]++bs d++ByteArray.mk #[32]).size<=180009007:=by rw[aX];omega
    have zE:(bs x.uh).size<=180000000:=by rw[eB];exact K
    have hs:=P1 k d a j x y;have eN:((s=true/\j=0)\/(t=true/\j=1))->bs (ud k d a j)++ByteArray.mk #[32]++bs d++ByteArray.mk #[32]++bs x.uh=bs (ud k d a (j+1)):=by
     intro h;rw[S.out,T.out,bW,bW]at h;rw[hs,show ByteArray.mk #[32]=bs [32] from rfl,eM,eM,eM,eM];unfold lK;rw[ah h];simp
    have eP:¬((s=true/\j=0)\/(t=true/\j=1))->bs (ud k d a j)++ByteArray.mk #[32]++bs x.uh=bs (ud k d a (j+1)):=by
     intro h;rw[S.out,T.out,bW,bW]at h;rw[hs,show ByteArray.mk #[32]=bs [32] from rfl,eM,eM];unfold lK;rw[ag h];simp
    refine bY eN eP λN E=>?_;clear eN eP hs y;cases s<;>cases t<;>first|exact absurd ⟨rfl,rfl⟩ H|skip
    all_goals
     clear H;clear S T;by_cases O:j=0
     ·subst O
      first
      |(have B:Hid _:=N.out (by decide))
      |(have B:Hid _:=E.out (by decide))
      clear N E;go_wp2_with (go_at_call 41;refine f.mono ?_;rintro e w1 ⟨rfl,l⟩);go_roundw
      case rel=>exact⟨1,by omega,rfl,by rw[<-B.out],c.trans (l.mono A)⟩
      case measure=>simp[intOf];omega
     ·by_cases P:j=1
      ·subst P
       first
       |(have B:Hid _:=N.out (by decide))
       |(have B:Hid _:=E.out (by decide))
       clear N E;go_wp2_with (go_at_call 41;refine f.mono ?_;rintro e w1 ⟨rfl,l⟩);go_roundw
       case rel=>exact⟨2,by omega,rfl,by rw[<-B.out],c.trans (l.mono A)⟩
       case measure=>simp[intOf];omega
      ·have B:Hid _:=E (by simp[O,P]);clear N E;go_wp2_with (go_at_call 41;refine f.mono ?_;rintro e w1 ⟨rfl,l⟩);go_roundw
       case rel=>exact⟨j+1,by omega,by go_num,by rw[<-B.out],c.trans (l.mono A)⟩
       case measure=>simp[intOf];omega
   ·have hjk:j=a.length:=by omega
    subst hjk;clear n S T;go_wp2_with fail;go_ret;refine⟨?_,c⟩;rw[<-M,<-eM];rfl
theorem SP(c)(hit:nV c)(t):t.wf->wS c t:=by
 induction t using PT.ind with
 |h1 p s=>exact λ_=>Rg c hit p s
 |h2 p s=>exact λ_=>OP c p s
 |h3 p k e f b i=>
  intro d;have a:=λx g=>i x g (s7 d.2 x g);by_cases h:k=.new
  ·subst h
   match b,d.1,a with
   |[x],_,a=>exact Rh c p e f x (a x (by simp))
  ·exact P2 c p k e f b h a
theorem DW(s)(w)(c:9000<s.size)(a:s.size<=maxLen):Calls prog 77 #[.string s] w λv b=>v=.returned (.tuple #[.string (bs []),.int .i64 1])/\bg w b:=by
 unfold maxLen at a;go_in;go_wp2;refine au (v:=.tuple #[.string (bs []),.int .i64 1]) (by simp[results,results77,go_sem];rfl) rfl ⟨rfl,fp⟩
theorem DX(s)(w)(f:s.size<=9000)(q:Nat)(c:jt true s.data.toList=some q):Calls prog 77 #[.string s] w λv d=>v=.returned (.tuple #[.string (bs []),.int .i64 2])/\bg w d:=by
 have a:=λw=>pj s true w (by omega);rw[c]at a;simp only[lT]at a;go_in;go_wp2_with (go_at_call 60;refine (a _).mono ?_;rintro e g ⟨rfl,b⟩);refine au (v:=.tuple #[.string (bs []),.int .i64 2]) (by simp[results,results77,go_sem];rfl) rfl ⟨rfl,b⟩
theorem Jb (s) (w) (t:s.size<=9000) (f:Lib.TabIs prog w "internal/strconv.uint64pow10" .u64 Lib.pow10Tab) (e) (j:PE true (tokens s.data.toList) e []) (q:jt true s.data.toList=none):
  Calls prog 77 #[.string s] w λv l=>v=.returned (.tuple #[.string (bs e.uh),.int .i64 0])/\bg w l:=by
 have m:=λw=>pj s true w (by omega);rw[q]at m;simp only[lT]at m;have g:=λw=>sI s true e w (by omega) j;have p:=gP j;have h:=j.wf;have i:∀a,bg w a->∀b,gS a (λk=>k<a.heap.size) e 0 0 b->Calls prog 41 #[ptr b,.slice none 0 0,.slice none 0 0] a λv l=>v=.returned (.string (bs e.uh))/\bg a l:=
  λa h2 b r=>SP a (rI a (cC f a h2)) e h 0 0 b _ (by omega) ((j.eO (iy _)).1) h r a fp
 unfold ptr at g i;go_in;go_wp2_with (first
  |(go_at_call 60;refine (m _).mono ?_;rintro _ u ⟨rfl,c⟩)
  |(go_at_call 61;refine (g _).mono ?_;rintro _ a ⟨b,rfl,d,n⟩)
  |(go_at_call 41;refine (i a (c.trans (d.mono c.size)) b n).mono ?_;rintro _ x ⟨rfl,o⟩))
 refine au (v:=.tuple #[.string (bs e.uh),.int .i64 0]) (by simp[results,results77,go_sem]) rfl ⟨rfl,c.trans ((d.mono c.size).trans (o.mono (bw c.size d.size)))⟩
def yE(a b:gH):Prop:=a.e=b.e/\a.at_=b.at_
def V9(x y:Ty×gH):Prop:=x.1.bare=y.1.bare/\yE x.2 y.2
theorem Ga(h:yE c b)(e p:Nat):yE (gY c e p) (gY b e p):=by
 unfold gY;rw[h.1];split
 ·exact⟨rfl,rfl⟩
 ·exact h
theorem SQ(h:a.bare=w.bare):a.size=w.size:=by rw[<-gq a,h,gq]
theorem vR(h:a.bare=w.bare):a=.n↔w=.n:=by cases a<;>cases w<;>simp[Ty.bare]at h⊢
theorem Lq{x y}(h:V9 x y)(id a p:Nat):V9 (fin id p x) (fin a p y):=by
 unfold fin;refine⟨h.1,?_⟩;rw[h.2.1,SQ h.1];split
 ·exact Ga h.2 6 p
 ·exact h.2
theorem uR(a:yE b c)(p:Nat):V9 (.n,gY b 5 p) (.n,gY c 5 p):=⟨rfl,Ga a 5 p⟩
theorem Wa{e f:Ty}{p:Nat}(g:yE b c)(h1:a.bare=y.bare)(h2:w.bare=e.bare)(h3:x.bare=f.bare):V9 (if a=.n/\w.bare=x.bare then (w,b) else (.n,gY b 5 p)) (if y=.n/\e.bare=f.bare then (e,c) else (.n,gY c 5 p)):=by
 by_cases d:a=.n/\w.bare=x.bare
 ·rw[ah d,ah ⟨(vR h1).1 d.1,by rw[<-h2,<-h3];exact d.2⟩];exact⟨h2,g⟩
 ·rw[ag d,ag (λh=>d ⟨(vR h1).2 h.1,by rw[h2,h3];exact h.2⟩)];exact uR g p
theorem Wb{p:Nat}(e:yE b c)(h1:a.bare=x.bare)(h2:w.bare=y.bare):V9 (if a=.n/\w=.n then (.n,b) else (.n,gY b 5 p)) (if x=.n/\y=.n then (.n,c) else (.n,gY c 5 p)):=by
 by_cases d:a=.n/\w=.n
 ·rw[ah d,ah ⟨(vR h1).1 d.1,(vR h2).1 d.2⟩];exact⟨rfl,e⟩
 ·rw[ag d,ag (λh=>d ⟨(vR h1).2 h.1,(vR h2).2 h.2⟩)];exact uR e p
theorem SR(cls m)(k)(p o j:Nat)(w l)(x s)(h:w.map Ty.bare=l.map Ty.bare)(f:yE x s):V9 (dz cls k p o w x) (dz m k p j l s):=by
 have q:=by have:=congrArg List.length h;simpa using this
 cases w with
 |nil=>
  cases l with
  |nil=>cases k<;>exact uR f p
  |cons t g=>simp at q
 |cons a r=>
  cases l with
  |nil=>simp at q
  |cons t g=>
   simp at h;have i:=h.1;have e:∀k,k=.fst\/k=.snd->V9 (dz cls k p o (a::r) x) (dz m k p j (t::g) s):=by
    intro k z;cases a with
    |n=>
     cases t with
     |n=>rcases z with rfl|rfl<;>exact uR f p
     |p _ _ _=>simp[Ty.bare]at i
    |p D u v=>
     cases t with
     |n=>simp[Ty.bare]at i
     |p E F G=>
      simp[Ty.bare,Ty.p.injEq]at i;rcases z with rfl|rfl
      ·exact⟨i.1,f⟩
      ·exact⟨i.2,f⟩
   cases r with
   |nil=>
    cases g with
    |cons A g=>simp at q
    |nil=>
     cases k<;>first|exact e _ (aD rfl)|exact e _ (aE rfl)|exact uR f p|exact⟨i,f⟩
   |cons b r=>
    cases g with
    |nil=>simp at q
    |cons A g=>
     simp at h;have y:=h.2.1;cases r with
     |nil=>
      cases g with
      |cons B g=>simp at q
      |nil=>
       cases k<;>first|exact e _ (aD rfl)|exact e _ (aE rfl)|exact uR f p|exact Wb f i y|exact⟨i,f⟩|exact⟨by simp[dz,Ty.bare,i,y],f⟩
     |cons c r=>
      cases g with
      |nil=>simp at q
      |cons B g=>
       simp at h;cases r with
       |nil=>
        cases g with
        |cons C g=>simp at q
        |nil=>
         cases k<;>first|exact e _ (aD rfl)|exact e _ (aE rfl)|exact uR f p|exact Wa f i y h.2.2.1|exact⟨i,f⟩
       |cons d r=>
        cases g with
        |nil=>simp at q
        |cons C g=>cases k<;>first|exact e _ (aD rfl)|exact e _ (aE rfl)|exact uR f p|exact⟨i,f⟩
theorem AO{c b:dc}{d}(h:mc c=mc b)(e:w.bare=a.bare):mc (c++[(d,w)])=mc (b++[(d,a)]):=by rw[oM,oM,h,e]
mutual
theorem nA(cls i):∀(t:PT)(id l g d:Nat)(j f:dc)(o h:gH),mc j=mc f->yE o h->V9 (aV cls t id g j o) (aV i t l d f h)
 |.num p s,id,l,g,d,j,f,o,h,v,q=>by simp only[aV];exact Lq (x:=(.n,o)) (y:=(.n,h)) ⟨rfl,q⟩ _ _ _
 |.name p s,id,l,g,d,j,f,o,h,v,q=>by
  simp only[aV];refine Lq ?_ _ _ _;have h1:=vD j s;have h2:=vD f s;rw[v,h2]at h1;cases A:look j s with
  |none=>
   cases z:look f s with
   |none=>exact⟨rfl,Ga q 4 p⟩
   |some F=>rw[A,z]at h1;simp at h1
  |some T=>
   cases z:look f s with
   |none=>rw[A,z]at h1;simp at h1
   |some F=>
    rw[A,z]at h1;simp only[cf,ai]at h1;exact⟨h1.symm,q⟩
 |.node p k u G m,id,l,g,d,j,f,o,h,v,q=>by
  simp only[aV];refine Lq ?_ _ _ _;by_cases C:k=.dV
  ·rw[ah C,ah C];exact P3 cls i u m _ _ _ _ j f o h v q
  ·rw[ag C,ag C];have B:(if k=.loop then df cls u m (id+1) g j o else cP cls m (id+1) (g+if k=.pair then 1 else 0) j o).1.map Ty.bare=(if k=.loop then df i u m (l+1) d f h else cP i m (l+1) (d+if k=.pair then 1 else 0) f h).1.map Ty.bare/\yE (if k=.loop then df cls u m (id+1) g j o else cP cls m (id+1) (g+if k=.pair then 1 else 0) j o).2 (if k=.loop then df i u m (l+1) d f h else cP i m (l+1) (d+if k=.pair then 1 else 0) f h).2:=by
    by_cases A:k=.loop
    ·rw[ah A,ah A];exact Lr cls i u m _ _ _ _ j f o h v q
    ·rw[ag A,ag A];exact CO cls i m _ _ _ _ j f o h v q
   generalize (if k=.loop then df cls u m (id+1) g j o else cP cls m (id+1) (g+if k=.pair then 1 else 0) j o)=x at B⊢;generalize (if k=.loop then df i u m (l+1) d f h else cP i m (l+1) (d+if k=.pair then 1 else 0) f h)=E at B⊢;by_cases D:x.2.e=0
   ·rw[ag (by simpa using D),ag (by rw[<-B.2.1];simpa using D)];exact SR cls i k p g d x.1 E.1 x.2 E.2 B.1 B.2
   ·rw[ah D,ah (by rw[<-B.2.1];exact D)];exact⟨rfl,B.2⟩
theorem CO(cls i):∀(w:List PT)(id l g d:Nat)(j f:dc)(o h:gH),mc j=mc f->yE o h->(cP cls w id g j o).1.map Ty.bare=(cP i w l d f h).1.map Ty.bare/\yE (cP cls w id g j o).2 (cP i w l d f h).2
 |[],_,_,_,_,_,_,o,h,_,q=>by simp only[cP];exact⟨trivial,q⟩
 |a::r,id,l,g,d,j,f,o,h,v,q=>by
  simp only[cP];have h1:=nA cls i a id l g d j f o h v q;have h2:=CO cls i r (id+a.cnt) (l+a.cnt) (g+a.dn) (d+a.dn) j f _ _ v h1.2;exact⟨by rw[bK,bK,h1.1,h2.1],h2.2⟩
theorem P3(cls i)(u):∀(w:List PT)(id l g d:Nat)(j f:dc)(o h:gH),mc j=mc f->yE o h->V9 (gI cls u w id g j o) (gI i u w l d f h)
 |[a,b],id,l,g,d,j,f,o,h,v,q=>by
  simp only[gI];have h1:=nA cls i a id l g d j f o h v q;exact nA cls i b _ _ _ _ _ _ _ _ (AO v h1.1) h1.2
 |[],_,_,_,_,_,_,o,h,_,q=>by simp only[gI];exact⟨rfl,q⟩
 |[_],_,_,_,_,_,_,o,h,_,q=>by simp only[gI];exact⟨rfl,q⟩
 |_::_::_::_,_,_,_,_,_,_,o,h,_,q=>by simp only[gI];exact⟨rfl,q⟩
theorem Lr(cls i)(u):∀(w:List PT)(id l g d:Nat)(j f:dc)(o h:gH),mc j=mc f->yE o h->(df cls u w id g j o).1.map Ty.bare=(df i u w l d f h).1.map Ty.bare/\yE (df cls u w id g j o).2 (df i u w l d f h).2
 |[a,b,c],id,l,g,d,j,f,o,h,v,q=>by
  simp only[df];have h1:=nA cls i a id l g d j f o h v q;have h2:=nA cls i b (id+a.cnt) (l+a.cnt) (g+a.dn) (d+a.dn) j f _ _ v h1.2;have h3:=nA cls i c (id+a.cnt+b.cnt) (l+a.cnt+b.cnt) (g+a.dn+b.dn) (d+a.dn+b.dn) _ _ _ _ (AO (d:=u) v h2.1) h2.2;exact⟨by simp only[bK,eH];rw[h1.1,h2.1,h3.1],h3.2⟩
 |[],_,_,_,_,_,_,o,h,_,q=>by simp only[df];exact⟨trivial,q⟩
 |[_],_,_,_,_,_,_,o,h,_,q=>by simp only[df];exact⟨trivial,q⟩
 |[_,_],_,_,_,_,_,_,o,h,_,q=>by simp only[df];exact⟨trivial,q⟩
 |_::_::_::_::_,_,_,_,_,_,_,o,h,_,q=>by simp only[df];exact⟨trivial,q⟩
end
def zK(t:Tk):Prop:=t.c=.uj->0<=aQ t.s/\aQ t.s<=999
theorem Zn(l):(bX l).2=.uj->0<=aQ (l.take (bX l).1)/\aQ (l.take (bX l).1)<=999:=by
 unfold bX;split
 ·intro h;simp[js]at h;split at h
  ·simp at h
  ·split at h<;>simp at h
 ·split
  ·intro h;split at h<;>simp at h
  ·split
   ·simp
   ·rename_i c r _ _;split
    ·rename_i a;intro h;split at h
     ·rename_i b;simp only[fk,cu,bW]at b;have d:=CN (r.take (run 48 57 r)) 0 (λc a=>CM 48 57 r c a) (by omega);have e:10 ^ (r.take (run 48 57 r)).length<=10 ^ 3:=Nat.pow_le_pow_right (by omega) b.1.2;simp;unfold aQ;rw[List.foldl_cons,ah a];omega
     ·simp at h
    ·intro h;split at h
     ·simp at h
     ·split at h<;>simp at h
theorem zL(l):∀t∈tokens l,zK t:=by
 intro t a;obtain⟨b,_,c,d⟩:=pz _ _ _ t a;unfold zK;rw[c,d];exact Zn b
mutual
def PT.Bf:PT->Prop
 |.num _ _=>True
 |.name _ _=>True
 |.node _ _ _ b a=>(0<=aQ b/\aQ b<=999)/\CP a
def CP:List PT->Prop
 |[]=>True
 |t::r=>t.Bf/\CP r
end
mutual
theorem PE.Bf{c}:∀{l:List Tk}{e:PT}{r:List Tk},PE c l e r->(∀t∈l,zK t)->e.Bf/\∀t∈r,zK t
 |_,_,_,.num _,d=>⟨by simp[PT.Bf],λx f=>d x (by simp[f])⟩
 |_,_,_,.name _,d=>⟨by simp[PT.Bf],λx f=>d x (by simp[f])⟩
 |_,_,_,.node _ _ _ j,d=>by
  have h:=PW.Bf j (λx f=>d x (by simp[f]));exact⟨by simp only[PT.Bf];exact⟨h.1,h.2.1⟩,h.2.2⟩
theorem PW.Bf{c}:∀{k:List Wt}{l:List Tk}{m i:List UInt8}{g:List PT}{r:List Tk},PW c k l m i g r->(∀t∈l,zK t)->(0<=aQ i/\aQ i<=999)/\CP g/\∀t∈r,zK t
 |_,_,_,_,_,_,.nil,d=>⟨by decide,by simp[CP],d⟩
 |_,_,_,_,_,_,.close _ h1,d=>PW.Bf h1 (λx f=>d x (by simp[f]))
 |_,_,_,_,_,_,.name _ h1,d=>PW.Bf h1 (λx f=>d x (by simp[f]))
 |_,_,_,_,_,_,.region (t:=t) h h1,d=>by
  have n:=PW.Bf h1 (λx f=>d x (by simp[f]));exact⟨d t (by simp) h,n.2⟩
 |_,_,_,_,_,_,.e o h1,d=>by
  have a:=PE.Bf o d;have b:=PW.Bf h1 a.2;exact⟨b.1,by simp only[CP];exact⟨a.1,b.2.1⟩,b.2.2⟩
end
mutual
theorem Gb:∀t:PT,t.Bf->∀x∈t.tE,0<=aQ x.2/\aQ x.2<=999
 |.num _ _,_,x,a=>by simp[PT.tE]at a
 |.name _ _,_,x,a=>by simp[PT.tE]at a
 |.node p k _ d b,h,x,a=>by
  simp only[PT.Bf]at h;simp only[PT.tE,aA]at a;rcases a with a|a
  ·split at a
   ·rw[ax]at a;subst a;exact h.1
   ·simp at a
  ·exact Jc b h.2 x a
theorem Jc:∀c:List PT,CP c->∀x∈pJ c,0<=aQ x.2/\aQ x.2<=999
 |[],_,x,a=>by simp[pJ]at a
 |t::r,h,x,a=>by
  simp only[CP]at h;simp only[pJ,aA]at a;rcases a with a|a
  ·exact Gb t h.1 x a
  ·exact Jc r h.2 x a
end
def mR(e:PT):List Nat:=e.tE.map (λx=>(aQ x.2).toNat)
theorem P4(e):(mR e).length=e.dn:=by unfold mR;rw[aO,lj]
theorem Jd{e}(h:e.Bf):∀x∈mR e,x<1000:=by
 intro x a;unfold mR at a;rw[cM]at a;obtain⟨y,b,rfl⟩:=a;have:=Gb e h y b;omega
theorem AP(s)(w)(c:9000<s.size)(a:s.size<=maxLen):Calls prog 33 #[.string s,.bool true] w λv b=>v=.returned (.tuple #[.pointer none,.pointer none,.int .i64 1,.int .i64 0])/\bg w b:=by
 unfold maxLen at a;go_in;go_wp2;refine au (v:=.tuple #[.pointer none,.pointer none,.int .i64 1,.int .i64 0]) (by simp[results,results33,go_sem]) rfl ⟨rfl,fp⟩
theorem AQ(s)(w)(f:s.size<=9000)(q:Nat)(c:jt true s.data.toList=some q):Calls prog 33 #[.string s,.bool true] w λv d=>v=.returned (.tuple #[.pointer none,.pointer none,.int .i64 2,.int .i64 q])/\bg w d:=by
 have a:=λw=>pj s true w (by omega);rw[c]at a;simp only[lT]at a;go_in;go_wp2_with (go_at_call 60;refine (a _).mono ?_;rintro e g ⟨rfl,b⟩);refine au (v:=.tuple #[.pointer none,.pointer none,.int .i64 2,.int .i64 q]) (by simp[results,results33,go_sem]) rfl ⟨rfl,b⟩
theorem AR(s)(w)(N:s.size<=9000)(e)(A:PE true (tokens s.data.toList) e [])(C:jt true s.data.toList=none)(D:100<e.dn):Calls prog 33 #[.string s,.bool true] w λv E=>∃q:Nat,v=.returned (.tuple #[.pointer none,.pointer none,.int .i64 3,.int .i64 q])/\(e.tE[100]?).map (·.1)=some q/\bg w E:=by
 have m:=λw=>pj s true w (by omega);rw[C]at m;simp only[lT]at m;have f:=λw=>sI s true e w (by omega) A;have B:=gP A;have i:=λb F w h=>sF e b F w (by omega) h;have G:=yt e;unfold ptr at f i;go_in;go_wp2_with (first
  |(go_at_call 60;refine (m _).mono ?_;rintro _ O ⟨rfl,c⟩)
  |(go_at_call 61;refine (f _).mono ?_;rintro _ H ⟨b,rfl,j,n⟩))
 refine (i b _ H n).mono ?_;rintro _ o ⟨g,I,P,rfl,k,t,u⟩;obtain⟨x,r,J,a,y,d,l⟩:=u 100 D;have K:o.cell? ⟨g,100,none⟩=some (.pointer (some ⟨x,0,none⟩)):=by rw[t.cellAt 100 (by omega)];exact J
 have Q:o.cell? ⟨x,1,none⟩=some (.int .i64 r.p):=by rw[k.cell (p:=⟨x,1,none⟩) (aG a.choose_spec)];exact AJ a
 have L:bg w o:=c.trans ((j.mono c.size).trans (k.mono (bw c.size j.size)));have z:=Sh e r 100 l y d;have M:=aR _ _ K;go_wp2;go_quiet (fail);go_wp2;refine au (v:=.tuple #[.pointer none,.pointer none,.int .i64 3,.int .i64 r.p]) (by simp[results,results33,go_sem]) rfl ⟨r.p,rfl,z,L.trans ⟨rfl,rfl,rfl,bS,λ_ _=>rfl⟩⟩
theorem vS(s)(w)(hs:s.size<=9000)(e)(V:PE true (tokens s.data.toList) e [])(hn:jt true s.data.toList=none)(hm:e.dn<=100)(hit:∀t,bg w t->nV t):Calls prog 33 #[.string s,.bool true] w λv t=>∃b I:Nat,v=.returned (.tuple #[ptr b,ptr I,.int .i64 (aV (mR e) e 0 0 [] (qo e)).2.e,.int .i64 (aV (mR e) e 0 0 [] (qo e)).2.at_])/\bg w t/\gS t (λk=>k<t.heap.size) e 0 0 b/\∃(wz:World)(cv nv tv ov:Value),bg w wz/\gS wz (λk=>k<wz.heap.size) e 0 0 b/\ja wz t I (mR e) cv nv tv ov [] (aV (mR e) e 0 0 [] (qo e)).2:=by
 obtain⟨i0,hi,hz0,hz1,hz2⟩:=cI iJ;have hf:=λw=>pj s true w (by omega);rw[hn]at hf;simp only[lT]at hf;have J:=λw=>sI s true e w (by omega) V;have yx:=gP V;have K:=λb F w h=>sF e b F w (by omega) h;have hwf:=V.wf;have L:=(V.Bf (zL _)).1;unfold ptr at J K;obtain⟨C,hC⟩:=ez (mR e);rw[<-hC];have M:Hid _:=hC;clear V hn hC;go_in;go_wp2_with (first
  |(go_at_call 60;refine (hf _).mono ?_;rintro _ w1 ⟨rfl,z⟩)
  |(go_at_call 61;refine (J _).mono ?_;rintro _ w2 ⟨b,rfl,N,O⟩))
 refine (K b _ w2 O).mono ?_;rintro _ d ⟨g,cap,vs,rfl,l,W,X⟩;have P:=gS.keep (λk B=>cT B l.size) (λk B=>l.block k B) _ _ _ _ O;have HB:Hid (bg w d):=z.trans ((N.mono z.size).trans (l.mono (bw z.size N.size)));have hw3:=HB.size;obtain⟨n,A⟩:=ez e.dn;rw[<-A]at hm⊢;have HNN:Hid _:=A;have Y:∀k,k<n->∃(q x:Nat),C[k]?=some x/\d.cell? ⟨g,k,none⟩=some (.pointer (some ⟨q,0,none⟩))/\d.cell? ⟨q,3,none⟩=some (.int .i64 x)/\q<d.heap.size/\g<d.heap.size:=by
  intro k B;obtain⟨q,r,hv,Z,hip,Q,hmem⟩:=X k (by omega);obtain⟨_,_,rg,S,hrn⟩:=(oT e 0 0).2.1 r hmem hip;rw[Q,kO]at S;have J7:=Gb e L _ (aq S);obtain⟨kv,D⟩:=Z;have hb':=aG D;have c1:d.cell? ⟨g,k,none⟩=some (.pointer (some ⟨q,0,none⟩)):=by rw[W.cellAt k (by omega)];exact hv
  refine⟨q,(aQ rg).toNat,by rw[M.out];unfold mR;rw[aC,S];rfl,c1,?_,by have:=l.size;omega,aR _ _ c1⟩;rw[l.cell (p:=⟨q,3,none⟩) hb',aI D];have:((aQ rg).toNat:Int)=r.n:=by rw[hrn];simp only at J7;omega
  rw[this];rfl
 have E:C.length=n:=by rw[M.out,P4,A]
 have Na:Hid _:=Y;have G:Hid (∀x∈C,x<1000):=by show ∀x∈C,x<1000;rw[M.out];exact Jd L
 have adm:Hid _:=hit;clear X W z N l O J K hf A Y L hit;go_wp2;go_loopw [12,13] (λv i wr=>∃k:Nat,k<=n/\i=.int .i64 k/\wr.ownsRow d.heap.size 3 1 v k ((C.take k).map λ(x:Nat)=>Value.int .i64 x)/\bg d wr) (λ_ i _=>n-(intOf i).toNat)
 case atStart=>exact⟨0,by omega,rfl,wD,fp⟩
 case round=>
  obtain⟨k,B,rfl,H,a⟩:=hrel;have f:Hid (wr.ownsRow d.heap.size 3 1 _ k ((C.take k).map λ(x:Nat)=>Value.int .i64 x)):=H;have hsz:=a.size;clear H;by_cases hlt:k<n
  ·obtain⟨q,x,hx,k1,k2,kb,kg⟩:=Na k hlt;have m1:=(a.cell (p:=⟨g,k,none⟩) kg).trans k1;have m2:=(a.cell (p:=⟨q,3,none⟩) kb).trans k2;have mb:q<wr.heap.size:=by omega
   have mg:g<wr.heap.size:=by omega
   have HX:Hid _:=hx;clear hx k1 k2;go_wp2_with (at_builtin;go_must (refine dG _ rfl (.tmp 46) (.tmp 54) 42 rfl d.heap.size 3 i0 _ 1 8 gM hi hz0 hz1 hz2 rfl (by decide) _ k ((C.take k).map λ(x:Nat)=>Value.int .i64 x) rfl (f.alloc _) ⟨wr.heap.size,0,none⟩ 1 1 [.int .i64 x] rfl rfl ?c1 ?c2 ?c3 ?c4 ?c5 ?_))
   case c1=>
    intro j u hj;rw[<-hj];exact dQ _ _ _ _
   case c2=>intro u hu;simp at hu;subst hu;rfl
   case c3=>unfold maxLen;omega
   case c4=>first|omega|(simp;omega)
   case c5=>first|omega|(simp;omega)
   intro v' w4 m o hnil;have xN:Hid (bg d w4):=(a.alloc hsz _).grown o (by simp;omega) (λb hb=>(cA f b hb).1);have AZ:Hid _:=m;clear m o hnil;go_wp2;go_roundw
   case rel=>
    refine⟨k+1,by omega,by go_num,?_,xN⟩;have:=AZ;rw[cW,HX.out,bz,List.map_take];exact this
   case measure=>simp[intOf];omega
  ·have T:k=n:=by omega
   have HKN:Hid _:=T;have hcs:=f.2;have htk:C.take k=C:=cw (by omega);have U:=vN (a:=d) (cls:=C) ⟨G,λx hx t hb=>adm d HB x t (by have:=G x hx;omega) hb⟩ (by omega) e hwf b _ _ wr P (by omega) a (by have h:=f;rw[htk]at h;rw[E,<-T];exact h) (by rw[E,HNN.out];exact bS) (by
    rcases hcs with⟨h,_⟩|⟨g',cap',cur,h,_⟩
    ·exact⟨_,_,_,h⟩
    ·exact⟨_,_,_,h⟩)
   unfold ptr at U;have adn:Hid _:=a;clear hcs T htk a;go_wp2_with fail;refine U.mono ?_;rintro _ w5 ⟨I,nv,tv,ov,rfl,ac2,GY,c⟩;have c4:w5.cell? ⟨I,4,none⟩=some (.int .i64 (aV C e 0 0 [] (qo e)).2.e):=by rw[aI c.y];rfl
   have c5:w5.cell? ⟨I,5,none⟩=some (.int .i64 (aV C e 0 0 [] (qo e)).2.at_):=by rw[aI c.y];rfl
   have QL:Hid (bg w w5):=HB.trans ((adn.mono hw3).trans (GY.mono (by omega)));have HT5:Hid (gS w5 (λk=>k<w5.heap.size) e 0 0 b):=gS.keep (λk B=>by omega) (λk B=>c.b0.block k B) _ _ _ _ P;have VY:Hid _:=c;clear c GY U;obtain⟨R,hR⟩:=ez ((aV C e 0 0 [] (qo e)).2);rw[<-hR]at c4 c5;have FM:Hid (R=(aV C e 0 0 [] (qo e)).2):=hR;clear hR;go_wp2;go_quiet (fail);go_wp2;refine au (v:=.tuple #[ptr b,ptr I,.int .i64 R.e,.int .i64 R.at_]) (by simp[results,results33,go_sem,ptr]) rfl ⟨b,I,by rw[FM.out],QL.trans ⟨rfl,rfl,rfl,bS,λ_ _=>rfl⟩,IW HT5,d,_,nv,tv,ov,HB,P,VY.grow ⟨rfl,rfl,rfl,bS,λ_ _=>rfl⟩⟩
theorem uS(s)(w)(P:s.size<=9000)(e)(B:PE true (tokens s.data.toList) e []):Calls prog 54 #[.string s] w λv C=>∃b D c d E f a,v=.returned (.tuple #[cG (.slice b D c) (.slice d E f),.int .i64 0,.int .i64 0])/\bg w C/\ew C (.slice b D c) (.slice d E f) a (opn e 0)/\NA [] e 0 a/\(mf true s.size (tokens s.data.toList)).nodes=a:=by
 obtain⟨a,l,i⟩:=uI (b:=s.size) B;have m:=λw=>og (.inr ⟨rfl,rfl⟩) s w (by omega);have n:Hid _:=i;have x:Hid _:=And.intro l (by rw[i]:(mf true s.size (tokens s.data.toList)).nodes=a);clear B l i;go_in;go_wp2_with fail;refine (m _).mono ?_;rintro v j ⟨y,G⟩;have g:=pK y;have H:=aG g;have F:Hid _:=lN y;rcases G with⟨Q,o,_⟩|⟨_,R,S,rfl,h⟩
 ·rw[n.out]at o;cases o
 ·rw[n.out]at h;simp only at h;obtain⟨b,c,I⟩:=cm h.nd;obtain⟨d,f,J⟩:=cm h.op;refine bY (vQ h.nd g (by decide)) (vQ h.op g (by decide)) λq r=>?_;subst I;subst J;have T:cg j w.heap.size 0 (.slice none 0 0):=dR g rfl;have U:cg j w.heap.size 1 (.slice none 0 0):=dR g rfl;have V:=aK g 0;have W:=aK g 1;have z:=cR (.cells #[.slice b a.length c,.slice d (opn e 0).length f] 59) (bu (bu g 0 (.slice b a.length c)) 1 (.slice d (opn e 0).length f));have K:Hid ((((j.setCell ⟨w.heap.size,0,none⟩ (.slice b a.length c)).setCell ⟨w.heap.size,1,none⟩ (.slice d (opn e 0).length f)).alloc (.cells #[.slice b a.length c,.slice d (opn e 0).length f] 59)).cell? ⟨w.heap.size,0,none⟩=some (.slice b a.length c)):=(aI z 0).trans rfl;have L:Hid ((((j.setCell ⟨w.heap.size,0,none⟩ (.slice b a.length c)).setCell ⟨w.heap.size,1,none⟩ (.slice d (opn e 0).length f)).alloc (.cells #[.slice b a.length c,.slice d (opn e 0).length f] 59)).cell? ⟨w.heap.size,1,none⟩=some (.slice d (opn e 0).length f)):=(aI z 1).trans rfl;have t:ew ((j.setCell ⟨w.heap.size,0,none⟩ (.slice b a.length c)).setCell ⟨w.heap.size,1,none⟩ (.slice d (opn e 0).length f)) (.slice b a.length c) (.slice d (opn e 0).length f) a (opn e 0):=⟨bO h.nd (λk u=>by rw[lu (q.out k u),lu (q.out k u)]),bO h.op (λk u=>by rw[lu (r.out k u),lu (r.out k u)])⟩;have A:Hid _:=t.below (fp.alloc bS (.cells #[.slice b a.length c,.slice d (opn e 0).length f] 59));have M:w.heap.size≠j.heap.size:=by omega
  unfold cG;clear h y g m z t;go_wp2;refine au (v:=.tuple #[.agg #[.slice b a.length c,.slice d (opn e 0).length f],.int .i64 0,.int .i64 0]) (by have N:=K.out;have O:=L.out;simp[results,results54,go_sem,N,O]) rfl ⟨b,a.length,c,d,(opn e 0).length,f,a,rfl,?_,A.out,x.out⟩;exact ((F.out.setCell (p:=⟨w.heap.size,0,none⟩) bS _).setCell (p:=⟨w.heap.size,1,none⟩) bS _).alloc (by have:=F.out.size;simp[World.setCell];omega) _
theorem zM(s)(w)(j:s.size<=9000)(e)(k:PE true (tokens s.data.toList) e []):Calls prog 54 #[.string s] w λv i=>∃a b c d f g h,v=.returned (.tuple #[cG (.slice a b c) (.slice d f g),.int .i64 0,.int .i64 0])/\bg w i/\ew i (.slice a b c) (.slice d f g) h (opn e 0)/\NA [] e 0 h:=by
 refine (uS s w j e k).mono ?_;rintro _ _ ⟨a,b,c,d,f,g,h,h1,h2,h3,l,m⟩;exact⟨a,b,c,d,f,g,h,h1,h2,h3,l⟩
theorem oh(s)(w)(x y:Nat)(n:x≠0)(a:∀w,Calls prog 54 #[.string s] w λv e=>v=.returned (.tuple #[cG (.slice none 0 0) (.slice none 0 0),.int .i64 x,.int .i64 y])/\bg w e):Calls prog 42 #[.string s] w λv e=>v=.returned (.tuple #[cG (.slice none 0 0) (.slice none 0 0),.int .i64 x,.int .i64 y])/\bg w e:=by
 have o:((x:Int) !=0)=true:=by simp;omega
 unfold cG at a;unfold cG;have c:Hid _:=a;clear a;go_in;go_wp2_with fail;refine (c.out _).mono ?_;rintro _ d ⟨rfl,f⟩;have b:=pK f;have i:=aG b;have q:cg d w.heap.size 0 (.slice none 0 0):=dR b rfl;have r:cg d w.heap.size 1 (.slice none 0 0):=dR b rfl;have t:=aK b 0;have u:=aK b 1;have g:=cR (.cells #[.slice none 0 0,.slice none 0 0] 59) (bu (bu b 0 (.slice none 0 0)) 1 (.slice none 0 0));have j:Hid ((((d.setCell ⟨w.heap.size,0,none⟩ (.slice none 0 0)).setCell ⟨w.heap.size,1,none⟩ (.slice none 0 0)).alloc (.cells #[.slice none 0 0,.slice none 0 0] 59)).cell? ⟨w.heap.size,0,none⟩=some (.slice none 0 0)):=(aI g 0).trans rfl;have k:Hid ((((d.setCell ⟨w.heap.size,0,none⟩ (.slice none 0 0)).setCell ⟨w.heap.size,1,none⟩ (.slice none 0 0)).alloc (.cells #[.slice none 0 0,.slice none 0 0] 59)).cell? ⟨w.heap.size,1,none⟩=some (.slice none 0 0)):=(aI g 1).trans rfl;have h:Hid _:=lN f;clear f b g c;go_wp2;refine au (v:=.tuple #[.agg #[.slice none 0 0,.slice none 0 0],.int .i64 x,.int .i64 y]) (by have l:=j.out;have m:=k.out;simp[results,results42,go_sem,l,m]) rfl ⟨rfl,?_⟩;exact ((h.out.setCell (p:=⟨w.heap.size,0,none⟩) bS _).setCell (p:=⟨w.heap.size,1,none⟩) bS _).alloc (by have:=h.out.size;simp[World.setCell];omega) _
theorem wF(s)(w)(T:s.size<=9000)(e)(K:PE true (tokens s.data.toList) e []):Calls prog 42 #[.string s] w λv O=>∃l m o q r t g,v=.returned (.tuple #[cG (.slice l m o) (.slice q r t),.int .i64 (cK e).1,.int .i64 (cK e).2])/\bg w O/\ew O (.slice l m o) (.slice q r t) g (opn e 0)/\NA [] e 0 g/\(mf true s.size (tokens s.data.toList)).nodes=g:=by
 have P:=gP K;have u:=λw=>uS s w T e K;have b:=λ(w:World)(Q R:Value)(g:List NR)(a:NA [] e 0 g)(h:ew w Q R g (opn e 0))=>uL w Q R g (opn e 0) h (EI a) (by have:=a.len;omega) (a.small (λ_ h=>by simp at h) (by omega)) (λj n U=>by have:=a.back j n U;simpa using this);unfold cG at u;refine bY b u λz A=>?_;clear K b u;obtain⟨B,c⟩:=ez (cK e);rw[<-c];have C:Hid _:=c;clear c;go_in;go_wp2_with fail;refine (A.out _).mono ?_;rintro _ D ⟨l,m,o,q,r,t,g,rfl,L,J,a⟩;have E:=pK L;have V:=aG E;refine fT (lN L) E (vQ J.nd E (by decide)) (vQ J.op E (by decide)) λS W F G=>?_;have x:=J.below ((aM _ D).alloc bS (.cells #[.slice l m o,.slice q r t] 59));have b:=z.out (D.alloc (.cells #[.slice l m o,.slice q r t] 59)) _ _ g a.1 x;rw[CE a.1,<-C.out]at b;have M:Hid _:=a;unfold cG at b;clear J L E A z a;go_wp2_with fail;refine b.mono ?_;rintro _ y ⟨rfl,d⟩;have H:Hid _:=x.below d;have i:=pK d;have k0:cg y D.heap.size 0 (.slice l m o):=dR i rfl;have k1:cg y D.heap.size 1 (.slice q r t):=dR i rfl;have f:y.heap[w.heap.size]?=some (.cells #[.slice none 0 0,.slice none 0 0] 59 (0,0)):=by
  rw[d.block _ (by simp;omega)];exact cR _ W.out
 have X:cg y w.heap.size 0 (.slice none 0 0):=dR f rfl;have Y:cg y w.heap.size 1 (.slice none 0 0):=dR f rfl;have f0:=aK f 0;have f1:=aK f 1;have I:bg w y:=S.out.trans ((lN d).mono S.out.size);have N:Hid _:=I;have Z:w.heap.size≠D.heap.size:=by omega
 clear i f d I b x;go_wp2;refine au (v:=.tuple #[.agg #[.slice l m o,.slice q r t],.int .i64 B.1,.int .i64 B.2]) (by simp[results,results42,go_sem,X,Y]) rfl ⟨l,m,o,q,r,t,g,rfl,?_,⟨bO H.out.nd (λk i=>by rw[lu (F.out k i),lu (F.out k i)]),bO H.out.op (λk i=>by rw[lu (G.out k i),lu (G.out k i)])⟩,M.out⟩;exact (N.out.setCell (p:=⟨w.heap.size,0,none⟩) bS _).setCell (p:=⟨w.heap.size,1,none⟩) bS _
theorem pU(s)(w)(j:s.size<=9000)(e)(k:PE true (tokens s.data.toList) e []):Calls prog 42 #[.string s] w λv i=>∃a b c d f g h,v=.returned (.tuple #[cG (.slice a b c) (.slice d f g),.int .i64 (cK e).1,.int .i64 (cK e).2])/\bg w i/\ew i (.slice a b c) (.slice d f g) h (opn e 0)/\NA [] e 0 h:=by
 refine (wF s w j e k).mono ?_;rintro _ _ ⟨a,b,c,d,f,g,h,h1,h2,h3,l,m⟩;exact⟨a,b,c,d,f,g,h,h1,h2,h3,l⟩
