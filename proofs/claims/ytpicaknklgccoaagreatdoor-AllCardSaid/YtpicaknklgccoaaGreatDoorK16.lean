import Derived.Test.YtpicaknklgccoaaGreatDoorK15
import Derived.Deep.CutRange
set_option maxHeartbeats 2000000
set_option maxRecDepth 100000
namespace Go.Proofs.YtpicaknklgccoaaGreatDoor
open Tryz
open Go.RowKit
variable {w z R:Nat}{a c O:World}{b:PS -> Int × PS}{d x y u K T:Value}{v Y:PS}{L:Bool}{P:ByteArray}{N:Array Value}{M:Obj}{G:TN}
theorem sC:(prog.info? 208).map (·.size)=some 5:=by kernel_rfl
theorem zy(T:TN):(#[Value.int .i64 T.kind,.int .i64 T.at_,.int .i64 T.dH,.string (bs T.word),.int .i64 T.num]:Array Value).all (·.oneCell')=true:=by simp[Value.oneCell']
theorem Pf(s:ByteArray)(k:Nat)(a:k<s.size)(h:jJ s[k]=true):mO s.data.toList k=mO s.data.toList (k+1):=by
 unfold mO;rw[fI];exact tT s k a h
theorem MO(s:ByteArray)(k:Nat)(a:k<s.size)(h:jJ s[k]=false):mO s.data.toList k=oI s k::mO s.data.toList (k+(bX (s.data.toList.drop k)).1):=by
 unfold mO;rw[fI];exact wE s k a h
theorem Bb(s:ByteArray)(k:Nat)(a:s.size<=k):mO s.data.toList k=[]:=by
 unfold mO;rw[fI,show s.size-k=0 from by omega];rfl
theorem Ig(s:ByteArray):∀(m a:Nat),s.size-a<=m->mO s.data.toList (a+A0 (s.data.toList.drop a))=mO s.data.toList a/\(∀h:a+A0 (s.data.toList.drop a)<s.size,jJ (s[a+A0 (s.data.toList.drop a)])=false):=by
 intro m
 induction m with
 |zero=>
  intro a h;have:A0 (s.data.toList.drop a)=0:=by rw[nQ s a (by omega)];rfl
  rw[this];exact⟨rfl,λd=>by omega⟩
 |succ m f=>
  intro a h;by_cases b:a<s.size
  ·cases c:jJ s[a] with
   |true=>
    have e:a+A0 (s.data.toList.drop a)=(a+1)+A0 (s.data.toList.drop (a+1)):=by rw[drop_cons s a b];simp[A0,c];omega
    obtain⟨h1,h2⟩:=f (a+1) (by omega);refine⟨?_,?_⟩
    ·rw[e,h1,Pf s a b c]
    ·simp[e];exact h2
   |false=>
    have e:A0 (s.data.toList.drop a)=0:=by rw[drop_cons s a b];simp[A0,c]
    refine⟨by rw[e,az],?_⟩;simp[e];intro _;exact c
  ·have:A0 (s.data.toList.drop a)=0:=by rw[nQ s a (by omega)];rfl
   rw[this];exact⟨rfl,λd=>by omega⟩
theorem MP(s)(p:Nat)(a:p<s.size):mN (oI s p)=⟨fJ (bX (s.data.toList.drop p)).2,p,p+(bX (s.data.toList.drop p)).1,Ar (oI s p),Hy (oI s p)⟩:=by
 unfold mN;rw[Bz s p a];rfl
theorem uF(s:ByteArray)(p:Nat)(a b:Int)(c:p<s.size)(h:ug a b s[p]=false):run a b (s.data.toList.drop p)=0:=by
 rw[drop_cons s p c];simp[run,h]
theorem MQ(s:ByteArray)(p:Nat)(a b:Int)(c:p<s.size)(h:ug a b s[p]=true):0<run a b (s.data.toList.drop p):=by
 rw[drop_cons s p c];simp[run,h]
theorem Pg(s:ByteArray)(p:Nat)(a:p<s.size)(c:ug 97 122 s[p]=false)(d:ug 48 57 s[p]=false)(b:s[p]≠35):bX (s.data.toList.drop p)=(1,if s[p]=40 then .opn else if s[p]=41 then .cls else .bad):=by
 unfold bX;rw[uF s p 97 122 a c,uF s p 48 57 a d,ag (by omega),ag (by omega),drop_cons s p a];simp only;rw[ag b]
theorem Ry(s:ByteArray)(p:Nat)(d:p<s.size)(e:ug 97 122 s[p]=false)(f:ug 48 57 s[p]=false)(c:s[p]≠35):mN (oI s p)=⟨if s[p]=40 then 2 else if s[p]=41 then 3 else 1,p,p+1,[],0⟩:=by
 rw[MP s p d];unfold Ar Hy oI;rw[Pg s p d e f c];by_cases a:s[p]=40
 ·simp[a,fJ]
 ·by_cases b:s[p]=41
  ·simp[b,fJ]
  ·simp[a,b,fJ]
theorem Vu(s)(p n:Nat)(c:p<s.size)(d:n=run 97 122 (s.data.toList.drop p))(e:0<n):mN (oI s p)=⟨fJ (js ((s.data.toList.drop p).take n) n),p,p+n,if n<=8 then (s.data.toList.drop p).take n else [],0⟩:=by
 have h:bX (s.data.toList.drop p)=(n,js ((s.data.toList.drop p).take n) n):=by unfold bX;rw[<-d,ah e]
 have a:((s.data.toList.drop p).take n).length=n:=by
  have:=pQ 97 122 (s.data.toList.drop p);rw[cS];omega
 rw[MP s p c];unfold Ar Hy oI;rw[h];by_cases b:n<=8
 ·rw[ah b];unfold js;cases xS ((s.data.toList.drop p).take n) with
  |some k=>rfl
  |none=>simp[b]
 ·rw[ag b];have:=Ch ((s.data.toList.drop p).take n) (by omega);rw[a]at this;rw[this]
theorem YB(s:ByteArray)(p n:Nat)(a:p<s.size)(b:ug 97 122 s[p]=false)(c:n=run 48 57 (s.data.toList.drop p))(d:0<n):mN (oI s p)=qL (s.data.toList.drop p) 4 5 p p n:=by
 have h:bX (s.data.toList.drop p)=(n,if fk ((s.data.toList.drop p).take n) 4 then .num else .bad):=by
  unfold bX;rw[uF s p 97 122 a b,ag (by omega),<-c,ah d]
 rw[MP s p a];unfold Ar Hy oI qL;rw[h];cases fk ((s.data.toList.drop p).take n) 4 with
 |true=>simp[fJ]
 |false=>simp[fJ]
theorem Ih(l):aQ (35::l)=aQ l:=by unfold aQ;simp
theorem YC(s:ByteArray)(p n:Nat)(b:p<s.size)(a:s[p]=35)(c:n=run 48 57 (s.data.toList.drop (p+1))):mN (oI s p)=qL (s.data.toList.drop (p+1)) 3 6 p (p+1) n:=by
 have d:ug 97 122 s[p]=false:=by rw[a];decide
 have e:ug 48 57 s[p]=false:=by rw[a];decide
 have h:bX (s.data.toList.drop p)=(n+1,if fk ((s.data.toList.drop (p+1)).take n) 3 then .uj else .bad):=by
  unfold bX;rw[uF s p 97 122 b d,uF s p 48 57 b e,ag (by omega),ag (by omega),drop_cons s p b];simp only;rw[ah a,<-c]
 rw[MP s p b];unfold Ar Hy oI qL;rw[h];have f:(s.data.toList.drop p).take (n+1)=35::(s.data.toList.drop (p+1)).take n:=by rw[drop_cons s p b,cY,a]
 rw[f];cases fk ((s.data.toList.drop (p+1)).take n) 3 with
 |true=>simp[fJ,Ih];omega
 |false=>simp[fJ];omega
theorem Rz(s)(a:Nat)(w)(hs:s.size<=9000)(ha:a<=s.size):Calls prog 182 #[.string s,.int .i64 a] w λe d=>e=.returned (n8 (kQ s.size (mO s.data.toList a)))/\bg w d:=by
 obtain⟨Q,R⟩:=Ig s s.size a (by omega);have S:=Rw (s.data.toList.drop a);rw[dN,fI]at S;have b:=λw=>Cg s a w hs ha;rw[<-Q];obtain⟨p,hp⟩:=ez (a+A0 (s.data.toList.drop a));have hps:p<=s.size:=by omega
 have H:∀h:p<s.size,jJ s[p]=false:=by subst hp;exact R
 rw[<-hp]at b⊢;clear hp S Q;have z:=λw=>qK s p w (by omega);by_cases i:p<s.size
 ·have hb:=H i;clear H;have I:kQ s.size (mO s.data.toList p)=mN (oI s p):=by rw[MO s p i hb];rfl
  rw[I];clear I hb;rw[Cf s p i]at z;have B:=λw=>yo s[p] w;have C:=λw=>Ay s[p] w;have k:((s[p].toNat:Int)==40)=(s[p]==40):=jD s[p] 40;have j:((s[p].toNat:Int)==41)=(s[p]==41):=jD s[p] 41;have D:((s[p].toNat:Int)==35)=(s[p]==35):=jD s[p] 35;cases E:ug 97 122 s[p] with
  |true=>
   have N:((s[p].toNat:Int)==40)=false:=by
    rw[aH];unfold ug at E;simp only[cu,bW]at E;omega
   have O:((s[p].toNat:Int)==41)=false:=by
    rw[aH];unfold ug at E;simp only[cu,bW]at E;omega
   obtain⟨n,y⟩:=ez (run 97 122 (s.data.toList.drop p));have U:0<n:=by rw[y];exact MQ s p 97 122 i E
   have l:=pQ 97 122 (s.data.toList.drop p);rw[dN,fI,<-y]at l;have P:=λw=>FK s p n w hs y (by omega);rw[<-Vu s p n i y U]at P;rw[E]at B;generalize mN (oI s p)=T at P;unfold n8 at P;clear k j D E y U l;go_in;go_wp2_with (first
    |(go_at_call 191;refine (b _).mono ?_;rintro e d ⟨rfl,rfl⟩)
    |(go_at_call 192;refine (z _).mono ?_;rintro e d ⟨rfl,rfl⟩)
    |(go_at_call 193;refine (B _).mono ?_;rintro e d ⟨rfl,rfl⟩)
    |(go_at_call 195;refine (C _).mono ?_;rintro e d ⟨rfl,rfl⟩))
   refine (P _).mono ?_;rintro e V ⟨rfl,c⟩;have J:V.heap[w.heap.size]?=some (.cells #[.int .i64 0,.int .i64 0,.int .i64 0,.string ⟨#[]⟩,.int .i64 0] 208 (0,0)):=by
    rw[c.block w.heap.size (by simp)];exact bD _ _
   go_wp2_with (refine n9 rfl 208 (.tmp 4) (.tmp 41) rfl w.heap.size #[.int .i64 T.kind,.int .i64 T.at_,.int .i64 T.dH,.string (bs T.word),.int .i64 T.num] rfl rfl 208 _ J sC rfl (zy T) ?_;intro W g m o q r t);have c0:cg W w.heap.size 0 (.int .i64 T.kind):=dR g rfl;have X:cg W w.heap.size 1 (.int .i64 T.at_):=dR g rfl;have Y:cg W w.heap.size 2 (.int .i64 T.dH):=dR g rfl;have Z:cg W w.heap.size 3 (.string (bs T.word)):=dR g rfl;have c4:cg W w.heap.size 4 (.int .i64 T.num):=dR g rfl;have u:=j9 (((aM _ w).alloc bS _).trans (c.mono (by simp))) bS m o q r t;have K:Hid _:=u;clear g m o q r t c u;refine au (v:=.agg #[.int .i64 T.kind,.int .i64 T.at_,.int .i64 T.dH,.string (bs T.word),.int .i64 T.num]) (by simp[results,results182,go_sem,c0,X,Y,Z,c4]) rfl ⟨rfl,K⟩
  |false=>
   rw[E]at B;cases L:ug 48 57 s[p] with
   |true=>
    have N:((s[p].toNat:Int)==40)=false:=by
     rw[aH];unfold ug at L;simp only[cu,bW]at L;omega
    have O:((s[p].toNat:Int)==41)=false:=by
     rw[aH];unfold ug at L;simp only[cu,bW]at L;omega
    obtain⟨n,y⟩:=ez (run 48 57 (s.data.toList.drop p));have U:0<n:=by rw[y];exact MQ s p 48 57 i L
    have l:=pQ 48 57 (s.data.toList.drop p);rw[dN,fI,<-y]at l;have f:=λw=>uE s p p n 4 5 w hs y (by omega) (by omega);rw[<-YB s p n i E y U]at f;rw[L]at C;generalize mN (oI s p)=T at f;unfold n8 at f;clear k j D E L y U l;go_in;go_wp2_with (first
     |(go_at_call 191;refine (b _).mono ?_;rintro e d ⟨rfl,rfl⟩)
     |(go_at_call 192;refine (z _).mono ?_;rintro e d ⟨rfl,rfl⟩)
     |(go_at_call 193;refine (B _).mono ?_;rintro e d ⟨rfl,rfl⟩)
     |(go_at_call 195;refine (C _).mono ?_;rintro e d ⟨rfl,rfl⟩))
    refine (f _).mono ?_;rintro e V ⟨rfl,c⟩;have J:V.heap[w.heap.size]?=some (.cells #[.int .i64 0,.int .i64 0,.int .i64 0,.string ⟨#[]⟩,.int .i64 0] 208 (0,0)):=by
     rw[c.block w.heap.size (by simp)];exact bD _ _
    go_wp2_with (refine n9 rfl 208 (.tmp 4) (.tmp 48) rfl w.heap.size #[.int .i64 T.kind,.int .i64 T.at_,.int .i64 T.dH,.string (bs T.word),.int .i64 T.num] rfl rfl 208 _ J sC rfl (zy T) ?_;intro W g m o q r t);have c0:cg W w.heap.size 0 (.int .i64 T.kind):=dR g rfl;have X:cg W w.heap.size 1 (.int .i64 T.at_):=dR g rfl;have Y:cg W w.heap.size 2 (.int .i64 T.dH):=dR g rfl;have Z:cg W w.heap.size 3 (.string (bs T.word)):=dR g rfl;have c4:cg W w.heap.size 4 (.int .i64 T.num):=dR g rfl;have u:=j9 (((aM _ w).alloc bS _).trans (c.mono (by simp))) bS m o q r t;have K:Hid _:=u;clear g m o q r t c u;refine au (v:=.agg #[.int .i64 T.kind,.int .i64 T.at_,.int .i64 T.dH,.string (bs T.word),.int .i64 T.num]) (by simp[results,results182,go_sem,c0,X,Y,Z,c4]) rfl ⟨rfl,K⟩
   |false=>
    rw[L]at C;by_cases x:s[p]=35
    ·have d35:((s[p].toNat:Int)==35)=true:=by rw[D];simpa using x
     have N:((s[p].toNat:Int)==40)=false:=by rw[k,x];rfl
     have O:((s[p].toNat:Int)==41)=false:=by rw[j,x];rfl
     obtain⟨n,y⟩:=ez (run 48 57 (s.data.toList.drop (p+1)));have l:=pQ 48 57 (s.data.toList.drop (p+1));rw[dN,fI,<-y]at l;have f:=λw=>uE s p (p+1) n 3 6 w hs y (by omega) (by omega);rw[<-YC s p n i x y]at f;generalize mN (oI s p)=T at f;unfold n8 at f;rw[ng]at f;clear k j D E L y l x;go_in;go_wp2_with (first
      |(go_at_call 191;refine (b _).mono ?_;rintro e d ⟨rfl,rfl⟩)
      |(go_at_call 192;refine (z _).mono ?_;rintro e d ⟨rfl,rfl⟩)
      |(go_at_call 193;refine (B _).mono ?_;rintro e d ⟨rfl,rfl⟩)
      |(go_at_call 195;refine (C _).mono ?_;rintro e d ⟨rfl,rfl⟩))
     refine (f _).mono ?_;rintro e V ⟨rfl,c⟩;have J:V.heap[w.heap.size]?=some (.cells #[.int .i64 0,.int .i64 0,.int .i64 0,.string ⟨#[]⟩,.int .i64 0] 208 (0,0)):=by
      rw[c.block w.heap.size (by simp)];exact bD _ _
     go_wp2_with (refine n9 rfl 208 (.tmp 4) (.tmp 56) rfl w.heap.size #[.int .i64 T.kind,.int .i64 T.at_,.int .i64 T.dH,.string (bs T.word),.int .i64 T.num] rfl rfl 208 _ J sC rfl (zy T) ?_;intro W g m o q r t);have c0:cg W w.heap.size 0 (.int .i64 T.kind):=dR g rfl;have X:cg W w.heap.size 1 (.int .i64 T.at_):=dR g rfl;have Y:cg W w.heap.size 2 (.int .i64 T.dH):=dR g rfl;have Z:cg W w.heap.size 3 (.string (bs T.word)):=dR g rfl;have c4:cg W w.heap.size 4 (.int .i64 T.num):=dR g rfl;have u:=j9 (((aM _ w).alloc bS _).trans (c.mono (by simp))) bS m o q r t;have K:Hid _:=u;clear g m o q r t c u;refine au (v:=.agg #[.int .i64 T.kind,.int .i64 T.at_,.int .i64 T.dH,.string (bs T.word),.int .i64 T.num]) (by simp[results,results182,go_sem,c0,X,Y,Z,c4]) rfl ⟨rfl,K⟩
    ·have d35:((s[p].toNat:Int)==35)=false:=by rw[D];simpa using x
     have htn:=Ry s p i E L x;rw[htn];clear htn D E L x;by_cases F:s[p]=40
     ·have N:((s[p].toNat:Int)==40)=true:=by rw[k];simpa using F
      have A:Hid _:=F;clear F k j;go_in;go_wp2_with (first
       |(go_at_call 191;refine (b _).mono ?_;rintro e d ⟨rfl,rfl⟩)
       |(go_at_call 192;refine (z _).mono ?_;rintro e d ⟨rfl,rfl⟩))
      refine au (v:=.agg #[.int .i64 2,.int .i64 p,.int .i64 ((p:Int)+1),.string ⟨#[]⟩,.int .i64 0]) (by simp[results,results182,go_sem]) rfl ⟨?_,fp.alloc bS _⟩
      first|rfl|(simp only[ah A.out];rfl)|(unfold n8;simp only[ah A.out];rfl)
     ·have N:((s[p].toNat:Int)==40)=false:=by rw[k];simpa using F
      have A:Hid _:=F;clear F k;by_cases G:s[p]=41
      ·have O:((s[p].toNat:Int)==41)=true:=by rw[j];simpa using G
       have M:Hid _:=G;clear G j;go_in;go_wp2_with (first
        |(go_at_call 191;refine (b _).mono ?_;rintro e d ⟨rfl,rfl⟩)
        |(go_at_call 192;refine (z _).mono ?_;rintro e d ⟨rfl,rfl⟩))
       refine au (v:=.agg #[.int .i64 3,.int .i64 p,.int .i64 ((p:Int)+1),.string ⟨#[]⟩,.int .i64 0]) (by simp[results,results182,go_sem]) rfl ⟨?_,fp.alloc bS _⟩
       first|rfl|(simp only[ag A.out,ah M.out];rfl)|(unfold n8;simp only[ag A.out,ah M.out];rfl)
      ·have O:((s[p].toNat:Int)==41)=false:=by rw[j];simpa using G
       have M:Hid _:=G;clear G j;go_in;go_wp2_with (first
        |(go_at_call 191;refine (b _).mono ?_;rintro e d ⟨rfl,rfl⟩)
        |(go_at_call 192;refine (z _).mono ?_;rintro e d ⟨rfl,rfl⟩)
        |(go_at_call 193;refine (B _).mono ?_;rintro e d ⟨rfl,rfl⟩)
        |(go_at_call 195;refine (C _).mono ?_;rintro e d ⟨rfl,rfl⟩))
       refine au (v:=.agg #[.int .i64 1,.int .i64 p,.int .i64 ((p:Int)+1),.string ⟨#[]⟩,.int .i64 0]) (by simp[results,results182,go_sem]) rfl ⟨?_,fp.alloc bS _⟩
       first|rfl|(simp only[ag A.out,ag M.out];rfl)|(unfold n8;simp only[ag A.out,ag M.out];rfl)
 ·have I:=Bb s p (by omega);rw[I];clear I H;go_in;go_wp2_with (go_at_call 191;refine (b _).mono ?_;rintro e d ⟨rfl,rfl⟩);refine au (v:=.agg #[.int .i64 0,.int .i64 s.size,.int .i64 s.size,.string ⟨#[]⟩,.int .i64 0]) (by simp[results,results182,go_sem]) rfl ⟨rfl,fp.alloc bS _⟩
structure Gr(pE:PS->Int×PS)(st:PS): Prop where
 sc:(pE st).2.scope=st.scope
 l:(pE st).2.l.length<=st.l.length
 nd:(pE st).2.nodes.length+(pE st).2.l.length<=st.nodes.length+st.l.length
 op:(pE st).2.opened.length+4*(pE st).2.l.length<=st.opened.length+4*st.l.length+1
 up:st.opened.length<=(pE st).2.opened.length
def p9(b:PS->Int×PS)(m:Nat):Prop:=∀a:PS,a.l.length<=m->Gr b a
structure Gs(a b:PS)(j n:Nat): Prop where
 sc:b.scope=a.scope
 l:b.l.length<=a.l.length
 nd:b.nodes.length+b.l.length<=a.nodes.length+a.l.length+n
 op:b.opened.length+4*b.l.length<=a.opened.length+4*a.l.length+j
 up:a.opened.length<=b.opened.length
theorem Gs.refl(a):Gs a a 0 0:=⟨rfl,bS,bS,bS,bS⟩
theorem Gs.trans{b c}{n:Nat}(h:Gs v b w n)(d:Gs b c z R):Gs v c (w+z) (n+R):=
 ⟨d.sc.trans h.sc,by have:=h.l;have:=d.l;omega,by have:=h.nd;have:=d.nd;omega,by have:=h.op;have:=d.op;omega,by have:=h.up;have:=d.up;omega⟩
theorem tA(a):Gs a a.tail 0 0:=by
 refine⟨rfl,uy a,?_,?_,bS⟩
 ·have:=uy a;simp only[PS.tail]at this⊢;omega
 ·have:=uy a;simp[PS.tail]at this⊢;omega
theorem Bc(a:Nat)(b):Gs b (b.fail a) 0 0:=by
 unfold PS.fail;split
 ·exact Gs.refl _
 ·exact⟨rfl,by simp,by simp,by simp,bS⟩
theorem nE(b k:Nat)(a):Gs a (a.expect b k) 0 0:=by
 unfold PS.expect;split
 ·exact (tA a).trans (Bc _ _)
 ·exact tA a
theorem yp(h:p9 b w)(a)(c:a.l.length<=w):Gs a (b a).2 1 0:=
 have g:=h a c
 ⟨g.sc,g.l,g.nd,g.op,g.up⟩
theorem MS(h:p9 b w)(a)(c:Int)(d)(e:d.l.length<=w):Gs d (kR b a c d).2 1 0:=by
 have g:=h {d with scope:=d.scope++[(a,c)]} e;refine⟨?_,g.l,g.nd,g.op,g.up⟩;unfold kR;simp only[g.sc,eX]
theorem Bd(h:p9 b w)(n)(a)(c:a.l.length<=w):Gs a (BU b n a).2 1 0:=yp h a c
theorem yq(h:p9 b w)(n)(a)(c:a.l.length<=w):Gs a (Au b n a).2 2 0:=
 have g:=Bd h n a c
 g.trans (yp h _ (bw g.l c))
theorem Vv(h:p9 b w)(n)(a)(c:a.l.length<=w):Gs a (Hz b n a).2 3 0:=
 have g:=yq h n a c
 g.trans (yp h _ (bw g.l c))
theorem YD(h:p9 b w)(a:Nat)(n)(c)(f:c.l.length<=w):Gs c (Vh a b n c).2 2 0:=by
 have d:=nE a 4 c;have e:=yp h (c.expect a 4) (bw d.l f);exact (d.trans e).trans (MS h (kQ a c.l).word (b (c.expect a 4)).1 (b (c.expect a 4)).2 (by have:=d.l;have:=e.l;omega))
theorem Vw(h:p9 b w)(a:Nat)(n)(c)(g:c.l.length<=w):Gs c (MF a b n c).2 3 0:=by
 have d:=yp h c g;have e:=nE a 4 (b c).2;have f:=yp h ((b c).2.expect a 4) (by have:=d.l;have:=e.l;omega);exact ((d.trans e).trans f).trans (MS h (kQ a (b c).2.l).word (b ((b c).2.expect a 4)).1 (b ((b c).2.expect a 4)).2 (by have:=d.l;have:=e.l;have:=f.l;omega))
theorem Gs.le{n:Nat}(h:Gs v Y w n)(c:w<=z)(d:n<=R):Gs v Y z R:=⟨h.sc,h.l,by have:=h.nd;omega,by have:=h.op;omega,h.up⟩
theorem MT(h:p9 b w)(c)(d:Nat)(n)(a)(e:a.l.length<=w):Gs a (ux c d b n a).2 3 0:=by
 have f:=nE d 6 a;have g:=f.l;unfold ux;split
 ·exact (YD h d n a e).le (by omega) (by omega)
 split
 ·exact Vw h d n a e
 split
 ·split
  ·exact (f.trans (yq h _ _ (by omega))).le (by omega) (by omega)
  ·exact (yq h n a e).le (by omega) (by omega)
 split
 ·exact (f.trans (Bd h _ _ (by omega))).le (by omega) (by omega)
 split
 ·exact (Bd h n a e).le (by omega) (by omega)
 split
 ·exact Vv h n a e
 ·exact (yq h n a e).le (by omega) (by omega)
theorem YE(n)(a):Gs a (a.add n) 0 1:=⟨rfl,bS,by simp[PS.add];omega,bS,bS⟩
theorem Ci(h:p9 b w)(a)(c:Nat)(n)(d)(g:d.l.length<=w):Gs d (mP a c b n d).2 3 1:=by
 have e:=tA d;have f:=e.l;unfold mP;simp only;split
 ·exact (e.trans (Bc _ _)).le (by omega) (by omega)
 ·have h1:=MT h a c {n with form:=iW (kQ c d.l).kind} d.tail (by omega);exact ((e.trans h1).trans (nE c 3 _)).trans (YE _ _)
theorem FL{c}(b:Nat)(a)(h:∀n,a.l≠[]->Gs a.tail (c n a.tail).2 3 1):(nX b c a).2.scope=a.scope/\(nX b c a).2.l.length<=a.l.length/\(nX b c a).2.nodes.length+(nX b c a).2.l.length<=a.nodes.length+a.l.length/\(nX b c a).2.opened.length+4*(nX b c a).2.l.length<=a.opened.length+4*a.l.length/\a.opened.length<=(nX b c a).2.opened.length:=by
 cases d:a.l with
 |nil=>
  have e:nX b c a=(-1,a.tail.fail b):=by simp[nX,d,kQ]
  rw[e];have g:=(tA a).trans (Bc b a.tail);have m:=g.sc;have f:=g.l;have i:=g.nd;have j:=g.op;have k:=g.up;rw[d]at f i j;exact⟨m,f,by omega,by omega,k⟩
 |cons t r=>
  have o:a.tail.l=r:=by simp[PS.tail,d]
  unfold nX;rw[d];simp;split
  ·refine⟨rfl,?_,?_,?_,bS⟩<;>simp[PS.add,PS.tail,d]<;>omega
  split
  ·refine⟨rfl,?_,?_,?_,bS⟩<;>simp[PS.add,PS.tail,d]<;>omega
  split
  ·have g:=h (oB (kQ b (t::r))) (by rw[d];simp);have m:=g.sc;have f:=g.l;have i:=g.nd;have j:=g.op;have k:=g.up;rw[o]at f i j;have p:a.tail.nodes=a.nodes:=rfl;have q:a.tail.opened=a.opened:=rfl;rw[p]at i;rw[q]at j k;refine⟨m,?_,?_,?_,k⟩<;>omega
  ·have g:=(tA a).trans (Bc (kQ b (t::r)).at_ a.tail);have m:=g.sc;have f:=g.l;have i:=g.nd;have j:=g.op;have k:=g.up;rw[d]at f i j;exact⟨m,by omega,by omega,by omega,k⟩
theorem MU(c)(h:let a:={c with opened:=c.opened++[-1]};(b a).2.scope=a.scope/\(b a).2.l.length<=a.l.length/\(b a).2.nodes.length+(b a).2.l.length<=a.nodes.length+a.l.length/\(b a).2.opened.length+4*(b a).2.l.length<=a.opened.length+4*a.l.length/\a.opened.length<=(b a).2.opened.length):Gr (p8 b) c:=by
 obtain⟨h1,h2,h3,d,e⟩:=h;refine⟨h1,h2,h3,?_,?_⟩
 ·unfold p8;simp;simp at d;omega
 ·unfold p8;simp;simp at e;omega
theorem Vx(a)(b:Nat):∀n:Nat,p9 (nY a b n) n:=by
 intro n
 induction n with
 |zero=>
  intro c d;refine MU c (FL b _ (λn e=>absurd (dE.1 (by simpa using d)) e))
 |succ m f=>
  intro c d;refine MU c (FL b _ (λn e=>Ci f a b n _ ?_));simp[PS.tail];omega
def o6(s:ByteArray)(b:Bool)(c:Nat)(d:Bool)(a:Nat)(e f g:Value):Array Value:=#[.string s,.bool b,.int .i64 c,.bool d,.int .i64 a,e,f,g]
def xd(n:NR):List Value:=[.int .i64 n.form,.int .i64 n.at_,.int .i64 n.dH,.int .i64 n.num,.string (bs n.word),.int .i64 n.region,.int .i64 n.source,.int .i64 n.p0,.int .i64 n.p1,.int .i64 n.p2]
def EA(x:List UInt8×Int):List Value:=[.string (bs x.1),.int .i64 x.2]
def tZ(i:Int):Value:=.int .i64 i
structure kf(s:ByteArray)(jf:Bool)(pb:Nat)(w:World)(sv nv ov:Value)(st:PS): Prop where
 y:∃fr,fr<=s.size/\mO s.data.toList fr=st.l/\w.heap[pb]?=some (.cells (o6 s jf fr st.fl.isSome (st.fl.getD 0) sv nv ov) 150 (0,0))
 sc:w.ownsRow 0 264 2 sv st.scope.length (st.scope.flatMap EA)
 nd:w.ownsRow 0 160 10 nv st.nodes.length (st.nodes.flatMap xd)
 op:w.ownsRow 0 3 1 ov st.opened.length (st.opened.map tZ)
 sy:sv.ownBlock≠some pb
 ny:nv.ownBlock≠some pb
 oy:ov.ownBlock≠some pb
 sn:apart sv nv
 so:apart sv ov
 no:apart nv ov
structure fK(pb nb:Nat)(w w':World)(sv nv ov sv' nv' ov':Value): Prop where
 os:w'.os=w.os
 tape:w'.tape=w.tape
 output:w'.output=w.output
 size:w.heap.size<=w'.heap.size
 blk:∀k,k<w.heap.size->k≠pb->k≠nb->sv.ownBlock≠some k->nv.ownBlock≠some k->ov.ownBlock≠some k->w'.heap[k]?=w.heap[k]?
 s:∀g,sv'.ownBlock=some g->sv.ownBlock=some g\/w.heap.size<=g
 n:∀g,nv'.ownBlock=some g->nv.ownBlock=some g\/w.heap.size<=g
 o:∀g,ov'.ownBlock=some g->ov.ownBlock=some g\/w.heap.size<=g
theorem fK.refl(d e:Nat)(w)(a b c):fK d e w w a b c a b c:=⟨rfl,rfl,rfl,bS,λ_ _ _ _ _ _ _=>rfl,λ_ h=>aD h,λ_ h=>aD h,λ_ h=>aD h⟩
theorem fK.trans{f i j}(h:fK w z a c d x y u K T)(b:fK w z c O u K T f i j):fK w z a O d x y f i j:=by
 refine⟨b.os.trans h.os,b.tape.trans h.tape,b.output.trans h.output,bw h.size b.size,?_,?_,?_,?_⟩
 ·intro k p q l r t v;rw[b.blk k (cT p h.size) q l (λe=>by rcases h.s k e with e|e;exact r e;omega) (λe=>by rcases h.n k e with e|e;exact t e;omega) (λe=>by rcases h.o k e with e|e;exact v e;omega)];exact h.blk k p q l r t v
 ·intro g m;rcases b.s g m with e|e
  ·exact h.s g e
  ·exact aE (bw h.size e)
 ·intro g m;rcases b.n g m with e|e
  ·exact h.n g e
  ·exact aE (bw h.size e)
 ·intro g m;rcases b.o g m with e|e
  ·exact h.o g e
  ·exact aE (bw h.size e)
theorem fK.below(f g:Nat)(b d e)(h:bg a c):fK f g a c b d e b d e:=⟨h.os,h.tape,h.output,h.size,λk i _ _ _ _ _=>h.block k i,λ_ h=>aD h,λ_ h=>aD h,λ_ h=>aD h⟩
theorem fK.nb(h:fK w w a c d x y u K T):fK w z a c d x y u K T:=⟨h.os,h.tape,h.output,h.size,λk e b _ f g i=>h.blk k e b b f g i,h.s,h.n,h.o⟩
theorem kf.move(h:kf P L w a d x y v)(l)(b)(f:∀k,d.ownBlock=some k->c.heap[k]?=a.heap[k]?)(g:∀k,x.ownBlock=some k->c.heap[k]?=a.heap[k]?)(i:∀k,y.ownBlock=some k->c.heap[k]?=a.heap[k]?)(j:∃e,e<=P.size/\mO P.data.toList e=l/\c.heap[w]?=some (.cells (o6 P L e b.isSome (b.getD 0) d x y) 150 (0,0))):kf P L w c d x y {v with l:=l,fl:=b}:=
 ⟨j,bO h.sc f,bO h.nd g,bO h.op i,h.sy,h.ny,h.oy,h.sn,h.so,h.no⟩
theorem kf.slt{c}(h:kf P L w a d x c v):(∀k,d.ownBlock=some k->k<a.heap.size)/\(∀k,x.ownBlock=some k->k<a.heap.size)/\(∀k,c.ownBlock=some k->k<a.heap.size)/\w<a.heap.size:=
 ⟨λk b=>(h.sc.lt k b).2,λk b=>(h.nd.lt k b).2,λk b=>(h.op.lt k b).2,by obtain⟨f,_,_,e⟩:=h.y;exact aG e⟩
theorem kf.below{j}(h:kf P L w a d x j v)(e:bg a c):kf P L w c d x j v:=by
 obtain⟨h1,h2,h3,m⟩:=h.slt;obtain⟨n,f,g,i⟩:=h.y;exact kf.move h v.l v.fl (λk b=>e.block k (h1 k b)) (λk b=>e.block k (h2 k b)) (λk b=>e.block k (h3 k b)) ⟨n,f,g,by rw[e.block w m];exact i⟩
theorem pG{t}(b:Below ((a.alloc M).alloc (.cells N t)).drew.heap.size ((a.alloc M).alloc (.cells N t)).drew c):c.heap[a.heap.size+1]?=some (.cells N t (0,0)):=by
 rw[b.block (a.heap.size+1) (by show a.heap.size+1<((a.alloc M).alloc (.cells N t)).heap.size;simp)];have h:=bD (a.alloc M) (.cells N t);have e:(a.alloc M).heap.size=a.heap.size+1:=by simp
 rw[e]at h;exact h
theorem l5{t}{e}(h:a.heap[w]?=some (.cells #[x,y,u,d,e] t (0,0))):a.cell? ⟨w,0,none⟩=some x/\a.cell? ⟨w,1,none⟩=some y/\a.cell? ⟨w,2,none⟩=some u/\a.cell? ⟨w,3,none⟩=some d/\a.cell? ⟨w,4,none⟩=some e:=
 ⟨by rw[aI h];rfl,by rw[aI h];rfl,by rw[aI h];rfl,by rw[aI h];rfl,by rw[aI h];rfl⟩
theorem RA(s:ByteArray)(a:Nat)(i:a<=s.size):mO s.data.toList (kQ s.size (mO s.data.toList a)).dH=(mO s.data.toList a).tail/\(kQ s.size (mO s.data.toList a)).dH<=s.size:=by
 obtain⟨h1,h2⟩:=Ig s s.size a (by omega);have f:=Rw (s.data.toList.drop a);rw[<-h1];obtain⟨p,e⟩:=ez (a+A0 (s.data.toList.drop a));rw[<-e];have h3:∀h:p<s.size,jJ s[p]=false:=by subst e;exact h2
 by_cases b:p<s.size
 ·have c:=MO s p b (h3 b);rw[c];have d:=sS (s.data.toList.drop p) (by rw[drop_cons s p b];simp);rw[dN,fI]at d;have g:(kQ s.size (oI s p::mO s.data.toList (p+(bX (s.data.toList.drop p)).1))).dH=p+(bX (s.data.toList.drop p)).1:=by
   show (oI s p).at_+(oI s p).s.length=_;rw[Bz s p b];rfl
  rw[g];exact⟨rfl,by omega⟩
 ·have c:=Bb s p (by omega);rw[c];exact⟨Bb s s.size bS,bS⟩
theorem Ii{t}(b:Below ((a.alloc (.cells N t)).drew).heap.size ((a.alloc (.cells N t)).drew) c):∃g,a.heap.size<g/\Value.pointer (some ⟨c.heap.size,0,none⟩)=.pointer (some ⟨g,0,none⟩)/\(c.alloc (.cells #[.int .i64 G.kind,.int .i64 G.at_,.int .i64 G.dH,.string (bs G.word),.int .i64 G.num] t)).heap[g]?=some (.cells #[.int .i64 G.kind,.int .i64 G.at_,.int .i64 G.dH,.string (bs G.word),.int .i64 G.num] t (0,0))/\(c.alloc (.cells #[.int .i64 G.kind,.int .i64 G.at_,.int .i64 G.dH,.string (bs G.word),.int .i64 G.num] t)).heap[a.heap.size]?=some (.cells N t (0,0))/\bg a (c.alloc (.cells #[.int .i64 G.kind,.int .i64 G.at_,.int .i64 G.dH,.string (bs G.word),.int .i64 G.num] t)):=by
 have e:=by have:=b.size;simpa using this
 have d:c.heap[a.heap.size]?=some (.cells N t (0,0)):=by
  rw[b.block a.heap.size (by show a.heap.size<(a.alloc (.cells N t)).heap.size;simp)];exact bD a (.cells N t)
 refine⟨c.heap.size,by omega,rfl,bD _ _,cR _ d,?_⟩;have h1:bg a (a.alloc (.cells N t)).drew:=((aM _ a).alloc bS (.cells N t)).trans ⟨rfl,rfl,rfl,bS,λ_ _=>rfl⟩;exact (h1.trans (b.mono (by show a.heap.size<=(a.alloc (.cells N t)).heap.size;simp))).alloc (by omega) _
theorem Ij{e}{t}(f:Below ((a.alloc (.cells N t)).alloc (.cells #[x,y,u,d,e] t)).drew.heap.size ((a.alloc (.cells N t)).alloc (.cells #[x,y,u,d,e] t)).drew c):∃g,a.heap.size<g/\Value.pointer (some ⟨a.heap.size+1,0,none⟩)=.pointer (some ⟨g,0,none⟩)/\(((((c.setCell ⟨a.heap.size+1,0,none⟩ (.int .i64 G.kind)).setCell ⟨a.heap.size+1,1,none⟩ (.int .i64 G.at_)).setCell ⟨a.heap.size+1,2,none⟩ (.int .i64 G.dH)).setCell ⟨a.heap.size+1,3,none⟩ (.string (bs G.word))).setCell ⟨a.heap.size+1,4,none⟩ (.int .i64 G.num)).heap[g]?=some (.cells #[.int .i64 G.kind,.int .i64 G.at_,.int .i64 G.dH,.string (bs G.word),.int .i64 G.num] t (0,0))/\(((((c.setCell ⟨a.heap.size+1,0,none⟩ (.int .i64 G.kind)).setCell ⟨a.heap.size+1,1,none⟩ (.int .i64 G.at_)).setCell ⟨a.heap.size+1,2,none⟩ (.int .i64 G.dH)).setCell ⟨a.heap.size+1,3,none⟩ (.string (bs G.word))).setCell ⟨a.heap.size+1,4,none⟩ (.int .i64 G.num)).heap[a.heap.size]?=some (.cells N t (0,0))/\bg a (((((c.setCell ⟨a.heap.size+1,0,none⟩ (.int .i64 G.kind)).setCell ⟨a.heap.size+1,1,none⟩ (.int .i64 G.at_)).setCell ⟨a.heap.size+1,2,none⟩ (.int .i64 G.dH)).setCell ⟨a.heap.size+1,3,none⟩ (.string (bs G.word))).setCell ⟨a.heap.size+1,4,none⟩ (.int .i64 G.num)):=by
 have h:c.heap[a.heap.size]?=some (.cells N t (0,0)):=by
  rw[f.block a.heap.size (by show a.heap.size<((a.alloc (.cells N t)).alloc (.cells #[x,y,u,d,e] t)).heap.size;simp;omega)];exact cR _ (bD a (.cells N t))
 refine⟨a.heap.size+1,by omega,rfl,?_,?_,?_⟩
 ·exact bu (bu (bu (bu (bu (pG f) 0 _) 1 _) 2 _) 3 _) 4 _
 ·rw[cX _ _ (by simp only;omega),cX _ _ (by simp only;omega),cX _ _ (by simp only;omega),cX _ _ (by simp only;omega),cX _ _ (by simp only;omega)];exact h
 ·have h1:bg a ((a.alloc (.cells N t)).alloc (.cells #[x,y,u,d,e] t)).drew:=(((aM _ a).alloc bS (.cells N t)).alloc (by simp) (.cells #[x,y,u,d,e] t)).trans ⟨rfl,rfl,rfl,bS,λ_ _=>rfl⟩;exact (((((h1.trans (f.mono (by show a.heap.size<=((a.alloc (.cells N t)).alloc (.cells #[x,y,u,d,e] t)).heap.size;simp;omega))).setCell (p:=⟨a.heap.size+1,0,none⟩) (by simp) _).setCell (p:=⟨a.heap.size+1,1,none⟩) (by simp) _).setCell (p:=⟨a.heap.size+1,2,none⟩) (by simp) _).setCell (p:=⟨a.heap.size+1,3,none⟩) (by simp) _).setCell (p:=⟨a.heap.size+1,4,none⟩) (by simp) _
theorem Cj(s)(a)(b:Nat)(w)(r t u)(i)(N:s.size<=9000)(h:kf s a b w r t u i):Calls prog 153 #[ptr b] w λv M=>v=.returned (n8 (kQ s.size i.l))/\fK b b w M r t u r t u/\kf s a b M r t u i.tail:=by
 obtain⟨x,z,D,j⟩:=h.y;obtain⟨O,P,Q,R⟩:=h.slt;have d:=λw=>Rz s x w N z;have f:=RA s x z;rw[D]at d f;have y0:cg w b 0 (.string s):=dR j rfl;have y2:cg w b 2 (.int .i64 x):=dR j rfl;have C:=h;generalize kQ s.size i.l=T at d f;unfold n8 at d;show Calls _ _ #[Value.pointer (some ⟨b,0,none⟩)] w _;go_in;go_upto_region 1 with fail
 go_cut [3] from 4 to 12 (λS wx=>∃g,w.heap.size<g/\S=.pointer (some ⟨g,0,none⟩)/\wx.heap[g]?=some (.cells #[.int .i64 T.kind,.int .i64 T.at_,.int .i64 T.dH,.string (bs T.word),.int .i64 T.num] 208 (0,0))/\
   wx.heap[w.heap.size]?=some (.cells #[.int .i64 0,.int .i64 0,.int .i64 0,.string ⟨#[]⟩,.int .i64 0] 208 (0,0))/\bg w wx)
 case first=>
  go_region_with (go_at_call 182;refine (d _).mono ?_;rintro e w2 ⟨rfl,m⟩;(try (have q:=pG m;obtain⟨c0,U,V,X,Y⟩:=l5 q;have f0:=aK q 0;have f1:=aK q 1;have f2:=aK q 2;have f3:=aK q 3;have f4:=aK q 4)))
  all_goals (go_wp2_with fail;go_meet)
  all_goals first
   |exact Ii m
   |exact Ij m
 case rest=>
 obtain⟨g,hg,rfl,A,E,n⟩:=hcut;obtain⟨c0,U,V,X,Y⟩:=l5 A;have F:wc.heap[b]?=some (.cells (o6 s a x i.fl.isSome (i.fl.getD 0) r t u) 150 (0,0)):=by rw[n.block b R];exact j
 have z2:cg wc b 2 (.int .i64 x):=dR F rfl;have Z:=aK F 2;have hgp:g≠b:=by omega
 have hrp:w.heap.size≠b:=by omega
 have G:(wc.setCell ⟨b,2,none⟩ (.int .i64 T.dH)).heap[w.heap.size]?=some (.cells #[.int .i64 0,.int .i64 0,.int .i64 0,.string ⟨#[]⟩,.int .i64 0] 208 (0,0)):=by
  rw[cX _ _ (by simp only;omega)];exact E
 have hgw:=aG A;go_wp2_with (refine n9 rfl 208 (.tmp 2) (.tmp 18) rfl w.heap.size #[.int .i64 T.kind,.int .i64 T.at_,.int .i64 T.dH,.string (bs T.word),.int .i64 T.num] rfl rfl 208 _ G sC rfl (zy T) ?_;intro W hW H o I J K);obtain⟨d0,d1,d2,d3,d4⟩:=l5 hW;refine au (v:=.agg #[.int .i64 T.kind,.int .i64 T.at_,.int .i64 T.dH,.string (bs T.word),.int .i64 T.num]) (by simp[results,results153,go_sem,d0,d1,d2,d3,d4]) rfl ⟨rfl,?_,?_⟩
 ·have B:=n;refine⟨I.trans B.os,J.trans B.tape,K.trans B.output,by rw[H];simp only[World.setCell,dB];exact B.size,?_,λ_ h=>aD h,λ_ h=>aD h,λ_ h=>aD h⟩;intro k c p _ _ _ _;rw[o k (by omega),lu p];exact B.block k c
 ·have L:∀k,k<w.heap.size->k≠b->W.heap[k]?=w.heap[k]?:=by
   intro k c p;rw[o k (by omega),lu p];exact n.block k c
  refine kf.move C i.tail.l i.tail.fl (λk c=>L k (O k c) (λe=>C.sy (by rw[c,e]))) (λk c=>L k (P k c) (λe=>C.ny (by rw[c,e]))) (λk c=>L k (Q k c) (λe=>C.oy (by rw[c,e]))) ⟨T.dH,f.2,f.1,?_⟩;rw[o b (by omega)];exact bu F 2 _
theorem Ck(s)(d)(f:Nat)(w)(n o p)(g)(a:Nat)(h:kf s d f w n o p g):Calls prog 154 #[ptr f,.int .i64 a] w λv u=>v=.returned (.tuple #[])/\fK f f w u n o p n o p/\kf s d f u n o p (g.fail a):=by
 obtain⟨z,A,B,b⟩:=h.y;have D:cg w f 0 (.string s):=dR b rfl;have E:cg w f 2 (.int .i64 z):=dR b rfl;have r:cg w f 3 (.bool g.fl.isSome):=dR b rfl;have x:cg w f 4 (.int .i64 (g.fl.getD 0)):=dR b rfl;have F:=aK b 2;have G:=aK b 3;have H:=aK b 4;have m:=h;have C:=aG b;show Calls _ _ #[Value.pointer (some ⟨f,0,none⟩),_] w _;cases i:g.fl with
 |some q=>
  have e:g.fail a=g:=by unfold PS.fail;rw[i]
  rw[i]at r x;rw[e];simp only[Option.isSome_some]at r;go_in;go_wp2;refine au (v:=.tuple #[]) (by simp[results,results154,go_sem]) rfl ⟨rfl,fK.refl _ _ _ _ _ _,m⟩
 |none=>
  have e:g.fail a={g with l:=[],fl:=some a}:=by unfold PS.fail;rw[i]
  rw[i]at r x;rw[e];simp only[Option.isSome_none]at r;go_in;go_wp2;refine bP (v:=.tuple #[]) (by simp[results,results154,go_sem]) rfl ⟨rfl,?_,?_⟩
  ·refine⟨rfl,rfl,rfl,by simp[World.setCell],?_,λ_ h=>aD h,λ_ h=>aD h,λ_ h=>aD h⟩;intro k j c _ _ _ _;rw[lu c,lu c,lu c]
  ·have t:∀k,k≠f->(((w.setCell ⟨f,3,none⟩ (.bool true)).setCell ⟨f,4,none⟩ (.int .i64 a)).setCell ⟨f,2,none⟩ (.int .i64 s.size)).heap[k]?=w.heap[k]?:=by
    intro k c;rw[lu c,lu c,lu c]
   refine kf.move m [] (some a) (λk j=>t k (λe=>m.sy (by rw[j,e]))) (λk j=>t k (λe=>m.ny (by rw[j,e]))) (λk j=>t k (λe=>m.oy (by rw[j,e]))) ⟨s.size,bS,Bb s s.size bS,?_⟩;exact bu (bu (bu b 3 _) 4 _) 2 _
theorem MW{W}{r}(h:kf P L w a d x r v)(j:fK w z (a.alloc M) c d x r u K T)(p:kf P L w c u K T Y)(D:bg c O)(B:W.heap.size=O.heap.size)(q:∀k,k≠a.heap.size->W.heap[k]?=O.heap[k]?)(E:W.os=O.os)(F:W.tape=O.tape)(G:W.output=O.output):fK w z a W d x r u K T/\kf P L w W u K T Y:=by
 obtain⟨H,I,J,l4⟩:=h.slt;have N:=(fK.below w z d x r ((aM _ a).alloc bS M)).trans j;have m:=N.trans (fK.below w z u K T D);refine⟨⟨E.trans m.os,F.trans m.tape,G.trans m.output,by rw[B];exact m.size,λk i Q R f b g=>by rw[q k (by omega)];exact m.blk k i Q R f b g,m.s,m.n,m.o⟩,?_⟩;obtain⟨S,U,V,X⟩:=p.slt;have Z:(a.alloc M).heap.size=a.heap.size+1:=by simp
 have t:∀k,k<c.heap.size->k≠a.heap.size->W.heap[k]?=c.heap[k]?:=λk i C=>by rw[q k C];exact D.block k i
 obtain⟨fr,y1,y2,y3⟩:=p.y;refine kf.move p Y.l Y.fl (λk i=>t k (S k i) ?_) (λk i=>t k (U k i) ?_) (λk i=>t k (V k i) ?_) ⟨fr,y1,y2,by rw[t w X (by omega)];exact y3⟩
 ·rcases j.s k i with e|e
  ·have:=H k e;omega
  ·omega
 ·rcases j.n k i with e|e
  ·have:=I k e;omega
  ·omega
 ·rcases j.o k i with e|e
  ·have:=J k e;omega
  ·omega
theorem fK.RC(b:fK w z (a.alloc M) c d x y u K T)(f:∀k,d.ownBlock=some k->k<a.heap.size)(g:∀k,x.ownBlock=some k->k<a.heap.size)(h:∀k,y.ownBlock=some k->k<a.heap.size)(i:w<a.heap.size)(j:z<a.heap.size):c.heap[a.heap.size]?=some M:=by
 rw[b.blk a.heap.size (by simp) (by omega) (by omega) (λe=>by have:=f _ e;omega) (λe=>by have:=g _ e;omega) (λe=>by have:=h _ e;omega)];exact bD _ _
theorem qM(s)(b)(f:Nat)(w)(m n o)(d)(k:Nat)(Z:s.size<=9000)(h:kf s b f w m n o d):Calls prog 124 #[ptr f,.int .i64 k] w λv X=>v=.returned (n8 (kQ s.size d.l))/\fK f f w X m n o m n o/\kf s b f X m n o (d.expect s.size k):=by
 have q:=λw h=>Cj s b f w m n o d Z h;have r:=λw a h=>Ck s b f w m n o d.tail a h;obtain⟨F,G,H,Y⟩:=h.slt;have I:d.expect s.size k=if (kQ s.size d.l).kind≠k then d.tail.fail (kQ s.size d.l).at_ else d.tail:=rfl
 rw[I];generalize kQ s.size d.l=T at q;unfold n8 ptr at q;unfold ptr at r;have ha:kf s b f (w.alloc (.cells #[.int .i64 0,.int .i64 0,.int .i64 0,.string ⟨#[]⟩,.int .i64 0] 208)) m n o d:=h.below ((aM _ w).alloc bS _);have p:=q _ ha;show Calls _ _ #[Value.pointer (some ⟨f,0,none⟩),_] w _;by_cases E:T.kind=k
 ·have J:((T.kind:Int) !=(k:Int))=false:=by simp[E]
  rw[ag (by simp[E])];clear E r;go_in;go_wp2_with fail;refine p.mono ?_;rintro _ t ⟨rfl,c,j⟩;have K:=by have:=c.size;simpa using this
  have L:t.heap[w.heap.size]?=some (.cells #[.int .i64 0,.int .i64 0,.int .i64 0,.string ⟨#[]⟩,.int .i64 0] 208 (0,0)):=by
   rw[c.blk w.heap.size (by simp) (by omega) (by omega) (λe=>by have:=F _ e;omega) (λe=>by have:=G _ e;omega) (λe=>by have:=H _ e;omega)];exact bD _ _
  have M:=c;have N:=j;have B:w.heap.size≠t.heap.size:=by omega
  go_wp2_with (refine n9 rfl 208 (.tmp 4) (.tmp 16) rfl w.heap.size #[.int .i64 T.kind,.int .i64 T.at_,.int .i64 T.dH,.string (bs T.word),.int .i64 T.num] rfl rfl 208 _ (cR (.cells #[.int .i64 T.kind,.int .i64 T.at_,.int .i64 T.dH,.string (bs T.word),.int .i64 T.num] 208) L) sC rfl (zy T) ?_;intro W O u x y z A);obtain⟨P,Q,R,S,U⟩:=l5 O;refine au (v:=.agg #[.int .i64 T.kind,.int .i64 T.at_,.int .i64 T.dH,.string (bs T.word),.int .i64 T.num]) (by simp[results,results124,go_sem,P,Q,R,S,U]) rfl ⟨rfl,MW h M N ((aM _ t).alloc bS _) u x y z A⟩
 ·have J:((T.kind:Int) !=(k:Int))=true:=by simp;omega
  rw[ah E];go_in;go_wp2_with fail;refine p.mono ?_;rintro _ t ⟨rfl,c,j⟩;have K:=by have:=c.size;simpa using this
  have B:w.heap.size≠t.heap.size:=by omega
  go_wp2_with fail;refine (r _ T.at_ (j.below ((aM _ t).alloc bS _))).mono ?_;rintro _ w3 ⟨rfl,g,C⟩;have i:=j.slt;obtain⟨c0,c1,c2,c3,c4⟩:=l5 (g.RC i.1 i.2.1 i.2.2.1 i.2.2.2 i.2.2.2);have D:w3.heap[w.heap.size]?=some (.cells #[.int .i64 0,.int .i64 0,.int .i64 0,.string ⟨#[]⟩,.int .i64 0] 208 (0,0)):=by
   rw[g.blk w.heap.size (by simp;omega) (by omega) (by omega) (λe=>by have:=F _ e;omega) (λe=>by have:=G _ e;omega) (λe=>by have:=H _ e;omega)];exact cR _ (c.RC F G H Y Y)
  have V:=c.trans ((fK.below f f m n o ((aM _ t).alloc bS _)).trans g);go_wp2_with (refine n9 rfl 208 (.tmp 4) (.tmp 16) rfl w.heap.size #[.int .i64 T.kind,.int .i64 T.at_,.int .i64 T.dH,.string (bs T.word),.int .i64 T.num] rfl rfl 208 _ D sC rfl (zy T) ?_;intro W O u x y z A);obtain⟨P,Q,R,S,U⟩:=l5 O;refine au (v:=.agg #[.int .i64 T.kind,.int .i64 T.at_,.int .i64 T.dH,.string (bs T.word),.int .i64 T.num]) (by simp[results,results124,go_sem,P,Q,R,S,U]) rfl ⟨rfl,MW h V C fp u x y z A⟩
