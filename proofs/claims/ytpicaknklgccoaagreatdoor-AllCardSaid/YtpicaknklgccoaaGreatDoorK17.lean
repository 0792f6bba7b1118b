import Derived.Test.YtpicaknklgccoaaGreatDoorK16
import Derived.Deep.RegionLaw
set_option maxHeartbeats 4000000
set_option maxRecDepth 100000
namespace Go.Proofs.YtpicaknklgccoaaGreatDoor
open Tryz
open Go.RowKit
variable {w b c L T:Nat}{a x K:World}{d Y:PS}{y z P:Value}{v:Bool}{u:ByteArray}{N:Obj}{M:Option Nat}{R:RS}
theorem uG{P:Program}{I:Array Oper}{o:Oper}{b}{K}{Q}{E}(hg:o.guard=none)(s x:Operand)(t)(C:o.op=Op.call {callee:=Callee.builtin Builtin.append,args:=#[s,x],argTypes:=#[t,t]})(e)(i:TypeInfo)(z)(d bytes:Nat)(h1:P.underlying t=some (.slice e))(h2:P.info? e=some i)(h3:i.zero=some z)(O:i.size=d)(Z:i.bytes=bytes)(h6:z.cells.size=d)(h7:0<d)(v)(n:Nat)(G)(H:b.eval s=v)(l:a.ownsRow 0 e d v n G)(J)(m c:Nat)(f)(R:b.eval x=.slice (some J) m c)(S:f.length=m*d)(T:∀j u,f[j]?=some u->a.cell? (J.add j)=some u)(L:∀u∈f,u.oneCell'=true)(hm:0<m)(b1:n+m<=maxLen)(b2:(n+m)*bytes<=140737488355328)(hK:∀(g h:Nat)(q:World),q.ownsRow 0 e d (.slice (some ⟨g,0,none⟩) (n+m) h) (n+m) (G++f)->a.grownBy q v.ownBlock->(v.ownBlock=some g\/a.heap.size<=g)->K (b.put o.dst (.slice (some ⟨g,0,none⟩) (n+m) h)) q):if Region.wanted o (yielded I b.tmps)=true then Oper.wp P o b a K Q else E:=by
 have hw:Region.wanted o (yielded I b.tmps)=true:=by simp[Region.wanted,hg]
 rw[ah hw];have fin:∀(B:Value)(q:World),q.ownsRow a.heap.size e d B (n+m) (G++f)->a.grownBy q none->K (b.put o.dst B) q:=by
  intro B q D r;obtain⟨g,h,U⟩:∃g h,B=.slice (some ⟨g,0,none⟩) (n+m) h:=by
   rcases D.2 with⟨_,hh⟩|⟨g,h,V,A,_⟩
   ·omega
   ·exact⟨_,_,A⟩
  subst U;exact hK g h q (eA D (λk hk=>ld)) ⟨r.os,r.tape,r.output,r.size,λk hk _=>r.block k hk (by simp)⟩ (aE (D.lt g rfl).1)
 rcases l.2 with⟨A,W⟩|⟨g,h,V,A,hgb,hh,hn',hcm,hcs,X⟩
 ·subst W;have Y:G=[]:=dE.1 (by have:=l.1;omega);subst Y;obtain⟨B,q,p,M,N,_⟩:=run_append_own (P:=P) a a.heap.size t o.type e i z d bytes h1 h2 h3 O Z h6 h7 (.slice none 0 0) 0 [] (lH a _ e d) J m c f S T L b1 b2 bS;unfold Oper.wp;rw[A]at H;simp[execOp,C,resolve,invoke,builtin,H,R,p,Result.andThen];exact fin B q M N
 ·by_cases F:n+m<=h
  ·have y:=l;rw[A]at y H;obtain⟨q,p,M,N⟩:=run_append_fits (P:=P) a 0 t o.type e i d h1 h2 O g n h G y J m c f S T L F;unfold Oper.wp;simp[execOp,C,resolve,invoke,builtin,H,R,p,Result.andThen];exact hK g h q M (by rw[A];exact N) (aD (by rw[A];rfl))
  ·obtain⟨B,q,p,M,N⟩:=run_append_arg_grows (P:=P) a t o.type e i z d bytes h1 h2 h3 O Z h6 h7 ⟨g,0,none⟩ n h G l.1 (λj u hj=>l.cells (by rw[A];rfl) j u hj) J m c f S T (by omega) b1 b2;unfold Oper.wp;rw[A]at H;simp[execOp,C,resolve,invoke,builtin,H,R,p,Result.andThen];exact fin B q M N
theorem Cm:(prog.info? 160).map (λi=>(i.zero,i.size,i.bytes))=some (some (.agg #[.int .i64 0,.int .i64 0,.int .i64 0,.int .i64 0,.string ⟨#[]⟩,.int .i64 0,.int .i64 0,.int .i64 0,.int .i64 0,.int .i64 0]),10,88):=by kernel_rfl
theorem Cn:prog.underlying 57=some (.slice 160):=by kernel_rfl
theorem KU:(prog.info? 264).map (λi=>(i.zero,i.size,i.bytes))=some (some (.agg #[.string ⟨#[]⟩,.int .i64 0]),2,24):=by kernel_rfl
theorem KV:prog.underlying 148=some (.slice 264):=by kernel_rfl
def dK(n:NR):Value:=.agg #[.int .i64 n.form,.int .i64 n.at_,.int .i64 n.dH,.int .i64 n.num,.string (bs n.word),.int .i64 n.region,.int .i64 n.source,.int .i64 n.p0,.int .i64 n.p1,.int .i64 n.p2]
theorem RD:∀(l:List (List UInt8×Int))(i:Nat),(l.flatMap EA)[i*2]?=(l[i]?).map (λx=>Value.string (bs x.1))/\(l.flatMap EA)[i*2+1]?=(l[i]?).map (λx=>Value.int .i64 x.2)
 |[],i=>by simp
 |x::l,0=>by simp[EA]
 |x::l,i+1=>by
  have:=RD l i;rw[dS,show (i+1)*2=(EA x).length+i*2 from by simp[EA];omega,aw (by omega),cJ,show (EA x).length+i*2+1=(EA x).length+(i*2+1) from by omega,aw (by omega),cJ];simpa using this
theorem KW(l:List (List UInt8×Int))(k:Nat)(a:k<l.length)(u:List UInt8):gb (l.take (k+1)) u=if l[k].1==u then l[k].2 else gb (l.take k) u:=by
 unfold gb;rw[bQ a,fq,gU,cQ,dw];cases h:(l[k].1==u)<;>simp
theorem RE(s)(e)(z:Nat)(w)(m L M)(A)(u)(I:A.scope.length<=9000)(h:kf s e z w m L M A):Calls prog 180 #[ptr z,.string (bs u)] w λv N=>v=.returned (.int .i64 (gb A.scope u))/\N=w:=by
 obtain⟨S,C,D,o⟩:=h.y;have d:=h.sc;obtain⟨a,c⟩:∃x,x=A.scope:=⟨_,rfl⟩;rw[<-c]at d I⊢;obtain⟨n,E⟩:=ez a.length;rw[<-E]at d I;have F:(∃g b,m=.slice (some ⟨g,0,none⟩) n b)\/(m=.slice none 0 0/\n=0):=by
  rcases d.2 with⟨h1,h2⟩|⟨g,b,O,h1,_⟩
  ·exact aE ⟨h1,h2⟩
  ·exact aD ⟨g,b,h1⟩
 have T:cg w z 5 m:=dR o rfl;have J:Hid _:=E;show Calls _ _ #[Value.pointer (some ⟨z,0,none⟩),_] w _;clear o C D h c E;obtain⟨G,b,rfl,l⟩:∃G b,m=.slice G n b/\(∀j,j<n->∃g,G=some ⟨g,0,none⟩/\w.cell? ⟨g,j*2,none⟩=(a[j]?).map (λx=>Value.string (bs x.1))/\w.cell? ⟨g,j*2+1,none⟩=(a[j]?).map (λx=>Value.int .i64 x.2)):=by
  rcases F with⟨g,b,rfl⟩|⟨rfl,P⟩
  ·refine⟨_,b,rfl,λj Q=>⟨g,rfl,?_,?_⟩⟩
   ·have h1:=d.cellAt (j*2) (by omega);rw[h1,(RD a j).1]
   ·have h1:=d.cellAt (j*2+1) (by omega);rw[h1,(RD a j).2]
  ·exact⟨none,0,by rw[P],λj Q=>by omega⟩
 go_in;go_wp2;go_loop [5] (λi=>∃k:Nat,k<=n/\i=.int .i64 ((k:Int)-1)/\gb a u=gb (a.take k) u) (λi=>(intOf i+1).toNat)
 case atStart=>exact⟨n,bS,rfl,by rw[J.out,fR]⟩
 case round=>
  obtain⟨k,U,rfl,K⟩:=hrel;have H:Hid _:=K;clear K;cases k with
  |zero=>
   go_wp2;go_ret;exact⟨gj (by rw[H.out];rfl),rfl⟩
  |succ k=>
   obtain⟨g,rfl,p,r⟩:=l k (by omega);have t:k<a.length:=by have:=J.out;omega
   rw[aa t]at p r;simp only[cf]at p r;have f:=KW a k t u;have R:((k+1:Nat):Int)-1=(k:Int):=by omega
   rw[R];cases B:(a[k].1==u) with
   |true=>
    have q:((bs a[k].1).toList==(bs u).toList)=true:=by rw[bo,bR];exact B
    rw[B]at f;go_wp2;go_ret;exact⟨gj (by rw[H.out,f];rfl),rfl⟩
   |false=>
    have q:((bs a[k].1).toList==(bs u).toList)=false:=by rw[bo,bR];exact B
    rw[B]at f;go_wp2;go_round
    case rel=>exact⟨k,by omega,rfl,by rw[H.out,f];rfl⟩
    case measure=>simp[intOf]
theorem kW(d:a.grownBy x M)(c:a.heap[w]?=some N)(b:M≠some w):x.heap[w]?=some N:=by
 rw[d.block w (aG c) (λe=>b e.symm)];exact c
theorem kf.acB(h:kf u v w a y z P d)(n)(E:bg a x)(F:x.grownBy K z.ownBlock)(C:K.ownsRow 0 160 10 (.slice (some ⟨b,0,none⟩) (d.nodes.length+1) c) (d.nodes.length+1) (d.nodes.flatMap xd++xd n))(D:z.ownBlock=some b\/x.heap.size<=b):fK w w a (K.setCell ⟨w,6,none⟩ (.slice (some ⟨b,0,none⟩) (d.nodes.length+1) c)) y z P y (.slice (some ⟨b,0,none⟩) (d.nodes.length+1) c) P/\kf u v w (K.setCell ⟨w,6,none⟩ (.slice (some ⟨b,0,none⟩) (d.nodes.length+1) c)) y (.slice (some ⟨b,0,none⟩) (d.nodes.length+1) c) P {d with nodes:=d.nodes++[n]}:=by
 obtain⟨p,r⟩:=push 6 h.slt.2.2.2 h.ny E F C D;obtain⟨e,m,_⟩:=p.keep h.sc h.sy h.sn;obtain⟨o,_,q⟩:=p.keep h.op h.oy λb i j=>h.no b j i;obtain⟨f,t,A,B⟩:=h.y;exact⟨⟨p.os,p.tape,p.output,p.size,λk i j _ _ l _=>p.kp k i j l,λ_ h=>aD h,p.own,λ_ h=>aD h⟩,⟨f,t,A,p.blk B⟩,e,by simpa using r,o,h.sy,p.ne,h.oy,m,h.so,q⟩
theorem kf.acC(h:kf u v w a y z P d)(e)(D:bg a x)(E:x.grownBy K y.ownBlock)(B:K.ownsRow 0 264 2 (.slice (some ⟨b,0,none⟩) (d.scope.length+1) c) (d.scope.length+1) (d.scope.flatMap EA++EA e))(C:y.ownBlock=some b\/x.heap.size<=b):fK w w a (K.setCell ⟨w,5,none⟩ (.slice (some ⟨b,0,none⟩) (d.scope.length+1) c)) y z P (.slice (some ⟨b,0,none⟩) (d.scope.length+1) c) z P/\kf u v w (K.setCell ⟨w,5,none⟩ (.slice (some ⟨b,0,none⟩) (d.scope.length+1) c)) (.slice (some ⟨b,0,none⟩) (d.scope.length+1) c) z P {d with scope:=d.scope++[e]}:=by
 obtain⟨p,r⟩:=push 5 h.slt.2.2.2 h.sy D E B C;obtain⟨m,_,n⟩:=p.keep h.nd h.ny h.sn.symm;obtain⟨o,_,q⟩:=p.keep h.op h.oy h.so.symm;obtain⟨f,e,t,A⟩:=h.y;exact⟨⟨p.os,p.tape,p.output,p.size,λk i j _ l _ _=>p.kp k i j l,p.own,λ_ h=>aD h,λ_ h=>aD h⟩,⟨f,e,t,p.blk A⟩,by simpa using r,m,o,p.ne,h.ny,h.oy,n,q,h.no⟩
theorem kf.acD(h:kf u v w a y z P d)(e:Int)(D:bg a x)(E:x.grownBy K P.ownBlock)(B:K.ownsRow 0 3 1 (.slice (some ⟨b,0,none⟩) (d.opened.length+1) c) (d.opened.length+1) (d.opened.map tZ++[tZ e]))(C:P.ownBlock=some b\/x.heap.size<=b):fK w w a (K.setCell ⟨w,7,none⟩ (.slice (some ⟨b,0,none⟩) (d.opened.length+1) c)) y z P y z (.slice (some ⟨b,0,none⟩) (d.opened.length+1) c)/\kf u v w (K.setCell ⟨w,7,none⟩ (.slice (some ⟨b,0,none⟩) (d.opened.length+1) c)) y z (.slice (some ⟨b,0,none⟩) (d.opened.length+1) c) {d with opened:=d.opened++[e]}:=by
 obtain⟨p,r⟩:=push 7 h.slt.2.2.2 h.oy D E B C;obtain⟨m,n,_⟩:=p.keep h.sc h.sy h.so;obtain⟨o,q,_⟩:=p.keep h.nd h.ny h.no;obtain⟨f,e,t,A⟩:=h.y;exact⟨⟨p.os,p.tape,p.output,p.size,λk i j _ _ _ l=>p.kp k i j l,λ_ h=>aD h,λ_ h=>aD h,p.own⟩,⟨f,e,t,p.blk A⟩,m,o,by simpa using r,h.sy,h.ny,p.ne,h.sn,n,q⟩
theorem RF(n):∀u∈xd n,u.oneCell'=true:=by intro u a;simp[xd]at a;rcases a with rfl|rfl|rfl|rfl|rfl|rfl|rfl|rfl|rfl|rfl<;>rfl
theorem MX(s)(a)(b:Nat)(w)(l i m)(d)(n)(R:d.nodes.length<=9000)(h:kf s a b w l i m d):Calls prog 179 #[ptr b,dK n] w λv t=>v=.returned (.int .i64 d.nodes.length)/\∃o,fK b b w t l i m l o m/\kf s a b t l o m (d.add n):=by
 obtain⟨K,L,x,z,A⟩:=cI Cm;obtain⟨M,N,O,k⟩:=h.y;have C:=aG k;have S:w.cell? ⟨b,6,none⟩=some i:=by rw[aI k];rfl
 obtain⟨B,I⟩:∃B:Obj,B=.cells #[.int .i64 n.form,.int .i64 n.at_,.int .i64 n.dH,.int .i64 n.num,.string (bs n.word),.int .i64 n.region,.int .i64 n.source,.int .i64 n.p0,.int .i64 n.p1,.int .i64 n.p2] 160:=⟨_,rfl⟩;have D:bg w ((w.alloc B).alloc B).drew:=(((aM _ w).alloc bS B).alloc (by simp) B).trans ⟨rfl,rfl,rfl,bS,λ_ _=>rfl⟩;have p:((w.alloc B).alloc B).drew.ownsRow 0 160 10 i d.nodes.length (d.nodes.flatMap xd):=bE h.nd D;have E:Hid (∀(j:Nat)(u:Value),(xd n)[j]?=some u->((w.alloc B).alloc B).drew.cell? ((⟨w.heap.size+1,0,none⟩:Addr).add j)=some u):=by
  intro j u P;have J:=dQ (w.alloc B) (xd n) 160 j;have e:(w.alloc B).heap.size=w.heap.size+1:=by simp
  rw[e]at J;rw[<-P,<-J,I];rfl
 have F:Hid (((w.alloc B).alloc B).drew.heap[b]?=some (.cells (o6 s a M d.fl.isSome (d.fl.getD 0) l i m) 150 (0,0))):=by
  show ((w.alloc B).alloc B).drew.heap[b]?=_;rw[D.block b C];exact k
 have G:=h.ny;show Calls _ _ #[Value.pointer (some ⟨b,0,none⟩),Value.agg _] w _;go_in;subst I;go_wp2;go_region_law (refine uG rfl (.tmp 10) (.tmp 12) 57 rfl 160 K _ 10 88 Cn L x z A rfl (by decide) i d.nodes.length (d.nodes.flatMap xd) (by simp[Act.eval]) p ⟨w.heap.size+1,0,none⟩ 1 1 (xd n) (by simp[Act.eval]) rfl E (RF n) (by decide) (by unfold maxLen;omega) (by omega) ?_;intro g Q t q c H;have f:=kW c F G;have T:t.cell? ⟨b,6,none⟩=some i:=(aI f 6).trans rfl;have U:=aK f 6)
 all_goals
  have r:=kf.acB h n D c q H;go_wp2;go_ret;exact⟨gj (by omega),_,r⟩
theorem zz{e}{n:Nat}{l}(h:a.ownsRow w e b (.slice (some ⟨c,0,none⟩) n L) n l)(m:Nat)(q:m<=n):a.ownsRow w e b (.slice (some ⟨c,0,none⟩) m L) m (l.take (m*b)):=by
 obtain⟨h1,h2⟩:=h;have f:m*b<=n*b:=eV _ q;rcases h2 with⟨h2,_⟩|⟨v,o,i,p,r,s,x,j,k,d⟩
 ·cases h2
 ·simp only[bN,ai,Addr.mk.injEq]at p;obtain⟨⟨t,_⟩,_,u⟩:=p;subst t;subst u;refine⟨by rw[cS,h1];omega,aE ⟨c,L,i,rfl,r,s,by omega,j,k,?_⟩⟩;rw[<-d,nN,dL f]
theorem Ph(l:List (List UInt8×Int)):(l.flatMap EA).take ((l.length-1)*2)=l.dropLast.flatMap EA:=by
 rcases List.eq_nil_or_concat l with rfl|⟨r,x,rfl⟩
 ·rfl
 ·rw[List.concat_eq_append,eX,kH,aj,bG,fB];have b:(r.flatMap EA).length=r.length*2:=by
   induction r with
   |nil=>rfl
   |cons a r c=>simp[EA,c];omega
  rw[<-b,List.take_left]
theorem Vy(a:PS)(h:a.scope.dropLast=a.scope):{a with scope:=a.scope.dropLast}=a:=by rw[h]
theorem kf.aav{i}{n:Nat}(h:kf u v w a (.slice (some ⟨b,0,none⟩) n c) i z d)(l:b≠w)(m:a.ownsRow 0 264 2 (.slice (some ⟨b,0,none⟩) (n-1) c) (n-1) (d.scope.dropLast.flatMap EA))(o:n=d.scope.length):fK w w a (a.setCell ⟨w,5,none⟩ (.slice (some ⟨b,0,none⟩) (n-1) c)).drew (.slice (some ⟨b,0,none⟩) n c) i z (.slice (some ⟨b,0,none⟩) (n-1) c) i z/\kf u v w (a.setCell ⟨w,5,none⟩ (.slice (some ⟨b,0,none⟩) (n-1) c)).drew (.slice (some ⟨b,0,none⟩) (n-1) c) i z {d with scope:=d.scope.dropLast}:=by
 obtain⟨p,q,r,t⟩:=h.y;have j:∀k,k≠w->(a.setCell ⟨w,5,none⟩ (.slice (some ⟨b,0,none⟩) (n-1) c)).drew.heap[k]?=a.heap[k]?:=λk f=>lu f;refine⟨⟨rfl,rfl,rfl,by show _<=(a.setCell _ _).heap.size;simp only[World.setCell,dB];omega,λk _ x _ _ _ _=>j k x,λ_ h=>aD h,λ_ h=>aD h,λ_ h=>aD h⟩,?_⟩;refine⟨⟨p,q,r,bu t 5 _⟩,?_,bO h.nd (λk f=>j k (λe=>h.ny (by rw[f,e]))),bO h.op (λk f=>j k (λe=>h.oy (by rw[f,e]))),by simp[Value.ownBlock];exact l,h.ny,h.oy,λk f=>h.sn k f,λk f=>h.so k f,h.no⟩;have:=bO (x:=(a.setCell ⟨w,5,none⟩ (.slice (some ⟨b,0,none⟩) (n-1) c)).drew) m (λk f=>j k (by simp[Value.ownBlock]at f;omega));simp[<-o];exact this
theorem KX(s)(c)(d:Nat)(w)(l r t)(f)(D:f.scope.length<=9000)(h:kf s c d w l r t f):Calls prog 207 #[ptr d] w λv A=>v=.returned (.tuple #[])/\∃m,fK d d w A l r t m r t/\kf s c d A m r t {f with scope:=f.scope.dropLast}:=by
 obtain⟨K,u,x,i⟩:=h.y;have E:=aG i;have L:cg w d 5 l:=dR i rfl;have M:=aK i 5;obtain⟨n,o⟩:=ez f.scope.length;have b:=h.sc;rw[<-o]at b D;show Calls _ _ #[Value.pointer (some ⟨d,0,none⟩)] w _;by_cases F:n=0
 ·have p:f.scope=[]:=dE.1 (by omega);rw[Vy f (by rw[p];rfl)];obtain⟨B,a,rfl⟩:∃B a,l=.slice B n a:=by
   rcases b.2 with⟨h1,h2⟩|⟨g,a,j,h1,_⟩
   ·exact⟨none,0,by rw[h1,F]⟩
   ·exact⟨_,_,h1⟩
  go_in;go_wp2;refine bP (v:=.tuple #[]) (by simp[results,results207,go_sem]) rfl ⟨rfl,_,fK.refl _ _ _ _ _ _,h⟩
 ·obtain⟨g,a,rfl⟩:∃g a,l=.slice (some ⟨g,0,none⟩) n a:=by
   rcases b.2 with⟨h1,h2⟩|⟨g,a,j,h1,_⟩
   ·omega
   ·exact⟨_,_,h1⟩
  have C:n<=a:=by
   rcases b.2 with⟨h1,h2⟩|⟨G,q,j,h1,_,_,h3,_⟩
   ·omega
   ·simp only[bN]at h1;omega
  have k:a<=maxLen:=by
   rcases b.2 with⟨h1,h2⟩|⟨G,q,j,h1,_,_,_,h3,_⟩
   ·omega
   ·simp only[bN]at h1;omega
  unfold maxLen at k;have z:g≠d:=λe=>h.sy (by rw[e];rfl);have H:Hid (w.ownsRow 0 264 2 (.slice (some ⟨g,0,none⟩) (n-1) a) (n-1) (f.scope.dropLast.flatMap EA)):=by
   have:=zz b (n-1) (by omega);rw[o,Ph]at this;rw[o];exact this
  have I:Hid _:=o;clear b u x o;go_in;go_wp2;go_region
  all_goals
   go_wp2;have J:=kf.aav h z H I;refine bP (v:=.tuple #[]) (by simp[results,results207,go_sem]) rfl ⟨rfl,(.slice (some ⟨g,0,none⟩) (n-1) a),?_⟩;exact J
def Bd0(a:PS):Prop:=a.scope.length+a.l.length<=9000/\a.nodes.length+a.l.length<=9000/\a.opened.length+4*a.l.length<=50000
def Uu(a:PS):Prop:=a.scope.length+a.l.length<=8999/\a.nodes.length+a.l.length<=8999/\a.opened.length+4*a.l.length<=49997
theorem Uu.to(h:Uu d)(g:Gs d Y w 0)(c:w<=3):Bd0 Y:=by
 obtain⟨h1,h2,h3⟩:=h;exact⟨by rw[g.sc];have:=g.l;omega,by have:=g.nd;omega,by have:=g.op;omega⟩
theorem Uu.on(h:Uu d)(g:Gs d Y 0 0):Uu Y:=by
 obtain⟨h1,h2,h3⟩:=h;exact⟨by rw[g.sc];have:=g.l;omega,by have:=g.nd;omega,by have:=g.op;omega⟩
def YF(s:ByteArray)(a:Bool)(b:Nat)(g:PS->Int×PS)(m:Nat):Prop:=
 ∀(w:World)(h i j:Value)(c:PS),kf s a b w h i j c->c.l.length<=m->Bd0 c->Calls prog 123 #[ptr b] w λv k=>v=.returned (.int .i64 (g c).1)/\
  ∃d e f,fK b b w k h i j d e f/\kf s a b k d e f (g c).2
theorem Ik(s)(b)(d:Nat)(i)(m:Nat)(T:YF s b d i m)(U:p9 i m)(w)(e o p)(c)(u)(a:Int)(P:c.l.length<=m)(hl:c.scope.length+c.l.length<=8999)(Q:Bd0 c)(h:kf s b d w e o p c):Calls prog 206 #[ptr d,.string (bs u),.int .i64 a] w λv I=>v=.returned (.int .i64 (kR i u a c).1)/\∃r t x,fK d d w I e o p r t x/\kf s b d I r t x (kR i u a c).2:=by
 obtain⟨V,W,J,K,L⟩:=cI KU;obtain⟨X,Y,Z,q⟩:=h.y;have pq:=aG q;have y5:cg w d 5 e:=dR q rfl;have z:=λw e o p h=>T w e o p {c with scope:=c.scope++[(u,a)]} h P ⟨by simp;omega,Q.2.1,Q.2.2⟩;have A:=λw e o p h=>KX s b d w e o p (i {c with scope:=c.scope++[(u,a)]}).2 (by rw[(U {c with scope:=c.scope++[(u,a)]} P).sc];simp;omega) h;unfold ptr at z A;have Xj:kR i u a c=((i {c with scope:=c.scope++[(u,a)]}).1,{ (i {c with scope:=c.scope++[(u,a)]}).2 with scope:=(i {c with scope:=c.scope++[(u,a)]}).2.scope.dropLast}):=rfl;have R:bg w (w.alloc (.cells #[.string (bs u),.int .i64 a] 264)):=(aM _ w).alloc bS _;have B:(w.alloc (.cells #[.string (bs u),.int .i64 a] 264)).ownsRow 0 264 2 e c.scope.length (c.scope.flatMap EA):=bE h.sc R;have M:(w.alloc (.cells #[.string (bs u),.int .i64 a] 264)).heap[d]?=some (.cells (o6 s b X c.fl.isSome (c.fl.getD 0) e o p) 150 (0,0)):=cR _ q;show Calls _ _ #[Value.pointer (some ⟨d,0,none⟩),_,_] w _;go_in;go_wp2_with (at_builtin;go_must (refine mV _ rfl (.tmp 12) (.tmp 16) 148 rfl 264 V _ 2 24 KV W J K L rfl (by decide) e c.scope.length (c.scope.flatMap EA) rfl B ⟨w.heap.size,0,none⟩ 1 1 (EA (u,a)) rfl rfl ?c1 ?c2 (by decide) ?c3 ?c4 ?_))
 case c1=>
  intro j v hj;rw[<-hj]
  first|rfl|exact dQ _ _ _ _
 case c2=>intro v S;simp only[EA,bf,fA,lC]at S;rcases S with rfl|rfl<;>rfl
 case c3=>unfold maxLen;omega
 case c4=>omega
 intro g cap I C f N;have k:=kW f M h.sy;have c5:cg I d 5 e:=dR k rfl;have f5:=aK k 5;have n:=kf.acC h (u,a) R f C (by rw[show (w.alloc (.cells #[.string (bs u),.int .i64 a] 264)).heap.size=w.heap.size+1 from by simp];exact N);have D:=n.1;go_wp2_with fail;refine (z _ _ _ _ n.2).mono ?_;rintro _ w2 ⟨rfl,sv2,OE,YG,E,F⟩;have O:=D.trans E;go_wp2_with fail;refine (A _ _ _ _ F).mono ?_;rintro _ w3 ⟨rfl,sv3,G,H⟩;have HR:=O.trans G;go_wp2;go_ret;exact⟨rfl,_,_,_,HR,H⟩
theorem iJ:(prog.info? 3).map (λi=>(i.zero,i.size,i.bytes))=some (some (.int .i64 0),1,8):=by kernel_rfl
theorem gM:prog.underlying 42=some (.slice 3):=by kernel_rfl
theorem EB(c:a.heap[w]?=some N)(d:w<a.heap.size)(b:M≠some w)(e:x.grownBy K M)(f:bg a x):K.heap[w]?=some N:=kW e (by rw[f.block w d];exact c) b
theorem sD(W)(B):bg W (W.alloc B).drew:=((aM _ W).alloc bS B).trans ⟨rfl,rfl,rfl,bS,λ_ _=>rfl⟩
theorem Co{b:Type}{l:List b}{a:b}{f:b->b}(h:l[w]?=some a):l.modify w f=l.set w (f a):=by
 apply fD;intro j;rw[eJ];by_cases e:w=j
 ·subst e;rw[bh (ae.1 h).1,h];simp
 ·rw[bI e];simp[e]
theorem DD.opened{a n:Nat}(h:DD a (1+n) R)(d:Int):DD a n (R.opened d):=by
 have h3:=h.t;have e:=h.o;have:n*(a-R.steps+1)<=(1+n)*(a-R.steps+1):=eV _ (by omega);refine⟨h.f,h.s,h.c,h.w,?_,?_,zt d h.b⟩
 ·simp only[RS.opened,aj,bG];omega
 ·simp[RS.opened];omega
theorem fP.acE{f}{e}{l}(h:fP a x w (.slice (some ⟨c,0,none⟩) (l.length+1) L) f z e b R)(m:R.opn=l++[T]):fP a (x.setCell ⟨w,0,none⟩ (.slice (some ⟨c,0,none⟩) l.length L)) w (.slice (some ⟨c,0,none⟩) l.length L) f z e b {R with opn:=l}:=by
 have n:x.ownsRow a.heap.size 130 1 (.slice (some ⟨c,0,none⟩) l.length L) l.length (kJ e l):=by
  have h1:=h.o;rw[m,uq,aj,bG]at h1;have h2:=zz h1 l.length (by omega);rw[Nat.mul_one,List.take_left' (by simp[kJ])]at h2;exact h2
 refine⟨h.b0.setCell (p:=⟨w,0,none⟩) h.pq _,h.pq,(bu h.y 0 _).trans rfl,mX h.y n (by decide),mX h.y h.wh (by decide),mX h.y h.t (by decide),λk q=>h.ow k q,h.len,?_,h.nd,⟨λj r=>h.il.1 j (by rw[m];simp[r]),h.il.2⟩⟩;intro j d o s u;have:=h.ob j d o s u;exact⟨this.1,oZ h.y this.2 (by decide)⟩
theorem Pj(C l:Nat)(p:Nat)(nm D)(d)(G:dc)(hfa:d.wf)(ih:oA a C l d G)(id site b:Nat)(F)(q:kz)(hp)(i)(ov wv tv)(E)(w)(hT:gS a F (.node p .new nm D [d]) id site b)(hP:fP a w C ov wv tv E l i)(hH:BC w E q hp)(wN:qf q G)(hok:DD l (1+d.cnt) i)(he:i.e=0):Calls prog 73 #[ptr C,ptr b,.pointer hp] w (rB a C l w E (tX l (aQ D) [d] q i)):=by
 obtain⟨i0,hi,Q,S,T⟩:=cI En;refine fT hi Q S T λHI0 y8 za ze=>?_;clear hi Q S T;obtain⟨gk,vc,bx,FH,Cp,J,rA⟩:=Yy hT;have hne:=by have:=hP.pq;have:=J.hb;omega
 have QF:=by have:=hP.pq;have:=J.hg;omega
 have hN:=Xh hT;have xP:=by have:=hok.o;omega
 have x3:=(hP.b0.cell (p:=⟨b,3,none⟩) J.hb).trans hN;have sY:=by have:=hP.b0.size;have:=J.hb;omega
 have hpl:=aG hP.y;obtain⟨oa,oc,Vz⟩:=rsl hP.o;have K:=hP.WY (aQ D);have U0:Hid _:=K;obtain⟨W,hW⟩:=ez (w.alloc (.cells (nT ⟨aQ D,0,false⟩) 197));have W6:W.heap.size=w.heap.size+1:=by rw[hW];simp
 rw[<-hW]at K;have Y0:W.cell? ⟨C,0,none⟩=some (.slice oa i.opn.length oc):=by rw[aI K.y,<-Vz];rfl
 have aeD:=aG K.y;have hown:W.ownsRow 0 130 1 (.slice oa i.opn.length oc) i.opn.length (kJ (E++[w.heap.size]) i.opn):=by
  have:=eA (b:=0) K.o (λ_ _=>ld);rw[Vz]at this;exact this
 have U:=hown.alloc (.cells #[.pointer (some ⟨w.heap.size,0,none⟩)] 130);have tY:Hid _:=U;have GU:Hid (∀u∈([.pointer (some ⟨w.heap.size,0,none⟩)]:List Value),u.oneCell'=true):=by intro v hv;simp only[ax]at hv;subst hv;rfl
 refine xW hW Vz hH rA J wN hok he hP λHW YH HH HT1 HK HEN L HE HP=>?_;clear K hown U hT hP hH wN hok he rA J hN Vz;obtain⟨R,hR⟩:=ez (tX l (aQ D) [d] q i);rw[<-hR];have HR:Hid _:=hR;clear hR;show Calls _ _ #[Value.pointer (some ⟨C,0,none⟩),Value.pointer (some ⟨b,0,none⟩),_] w _;go_in;go_upto_region 2 with fail;have M:W=w.alloc (.cells #[.int .i64 (aQ D),.int .i64 0,.bool false] 197):=HW;rw[<-M];have HWS:Hid _:=W6;clear M W6 hW;go_wp2_with (at_builtin;go_must (refine mV _ rfl (.tmp 25) (.tmp 27) 86 rfl 130 i0 _ 1 8 Hq HI0 y8 za ze rfl (by decide) (.slice oa i.opn.length oc) i.opn.length (kJ (E++[w.heap.size]) i.opn) rfl tY ⟨W.heap.size,0,none⟩ 1 1 [.pointer (some ⟨w.heap.size,0,none⟩)] rfl rfl ?c1 GU (by decide) ?c3 ?c4 ?_))
 case c1=>intro j v hj;rw[<-hj];exact dQ W [.pointer (some ⟨w.heap.size,0,none⟩)] 130 j
 case c3=>unfold maxLen;omega
 case c4=>omega
 intro g N w3 V H Mz;have X:=U0;rw[<-HW.out]at X;have Xk:=fP.aaj (z:=g) (T:=N) (L:=w3) (P:=.cells #[.pointer (some ⟨w.heap.size,0,none⟩)] 130) X i.ops.length (by simp) (by rw[YH.out];exact H) (by
  have e:(E++[w.heap.size]).getD i.ops.length 0=w.heap.size:=by rw[<-HP.out.len];simp
  rw[e];exact V) (by rw[YH.out];rcases Mz with h|h;exact aD h;exact aE (by simpa using h))
 have hy3:w3.heap[C]?=some (.cells (nS (.slice oa i.opn.length oc) wv tv l i) 88 (0,0)):=by
  have h1:=jL (P:=.cells #[.pointer (some ⟨w.heap.size,0,none⟩)] 130) X.o (by rw[YH.out];exact H) X.y (by decide);rw[YH.out]at h1;exact h1
 have c1:cg w3 C 0 (.slice oa i.opn.length oc):=dR hy3 rfl;have zf:=aK hy3 0;have zl:=aG hy3;have Yh:Hid _:=Xk.1;have HIM:Hid (mK w (w3.setCell ⟨C,0,none⟩ (.slice (some ⟨g,0,none⟩) (i.opn.length+1) N))):=(mK.below ((aM _ w).alloc bS (.cells (nT ⟨aQ D,0,false⟩) 197))).trans (by rw[<-HW.out];exact Xk.2);clear V H Mz X Xk hy3 tY U0;go_upto_region 4 with fail;obtain⟨w4,hw4⟩:=ez (w3.setCell ⟨C,0,none⟩ (.slice (some ⟨g,0,none⟩) (i.opn.length+1) N));rw[<-hw4];have Y:=Yh;have hI4:=HIM;rw[<-hw4]at Y hI4;have Z:=HK.on Y.b0;have x4:=Z.c4;have ML:=Z.ck 0 bx rfl;have Rp:=Z.hb;have Rq:=Z.hg;have hkeep:=iM l d q (i.opened (aQ D));have DQ:=p5 l d q (i.opened (aQ D)) (zt _ L.b);have VA:=p4 l d q (i.opened (aQ D)) hfa HE L.s;have hc:=ih FH Cp bx F q hp (i.opened (aQ D)) _ wv tv (E++[w.heap.size]) w4 HT1 Y (HH.keep hI4 (dm _ _)) (λ_=>HEN) (λ_=>L.opened _);have aeE:=aG Y.y;have HI4:Hid _:=hI4;have hrn:tX l (aQ D) [d] q i=((rW l d q (i.opened (aQ D))).1,(rW l d q (i.opened (aQ D))).2.shut i.ops.length):=by simp only[tX]
 have MN:=HR.trans hrn;clear HR;generalize rW l d q (i.opened (aQ D))=r at*;unfold ptr at hc;clear Y hI4 Z hw4 Yh HIM c1 zf zl hrn;go_wp2_with fail;refine ay hc ?_;rintro _ w5 ⟨vb,ov5,wv5,tv5,RH,rfl,hv5,Hp,KY,x⟩;have I:r.2.opn=i.opn++[i.ops.length]:=hkeep.opn;obtain⟨g5,B,aaw⟩:=rsg x.o (by rw[I];simp);have Xl:r.2.opn.length=i.opn.length+1:=by rw[I];simp
 rw[Xl]at aaw;subst aaw;have O:RH[i.ops.length]?=some w.heap.size:=by
  obtain⟨t,rfl⟩:=Hp;rw[<-HP.out.len];simp
 have aax:i.ops.length<r.2.ops.length:=by
  rw[<-x.len];exact (ae.1 O).1
 obtain⟨b',z,e1,_,e3,e4⟩:=x.at aax;rw[O]at e1;cases e1;have hro:z.cells<=20000:=by
  have h1:=DQ.o i.ops.length z e3;have h2:=VA.cells;have h3:=VA.steps;have h4:=L.c;have h5:=L.f;have h6:(i.opened (aQ D)).cells=i.cells:=rfl;have h7:(i.opened (aQ D)).steps=i.steps:=rfl;omega
 have aef:i.opn.length+1<=B:=by
  have h:=x.o.2;rw[Xl]at h;rcases h with⟨h,_⟩|⟨g,N,cur,h,_,_,h3,_⟩
  ·cases h
  ·simp only[bN]at h;omega
 have Y0':cg w5 C 0 (.slice (some ⟨g5,0,none⟩) (i.opn.length+1) B):=dR x.y rfl;have F0:=aK x.y 0;have aeF:=aG x.y;have hp6:=x.acE I;have P:=(hp6.ob i.ops.length w.heap.size z O e3).2;have C2:(w5.setCell ⟨C,0,none⟩ (.slice (some ⟨g5,0,none⟩) i.opn.length B)).cell? ⟨w.heap.size,2,none⟩=some (.bool z.ended):=by rw[aI P];rfl
 have F2:=aK P 2;have L2:=aG P;have n:=hp6.WX (G:={ {r.2 with opn:=i.opn} with ops:=r.2.ops.set i.ops.length {z with ended:=true} }) i.ops.length w.heap.size z {z with ended:=true} O e3 2 (.bool true) rfl rfl rfl rfl rfl rfl;have Xm:r.2.shut i.ops.length={ { {r.2 with opn:=i.opn} with ops:=r.2.ops.set i.ops.length {z with ended:=true} } with dq:=r.2.dq++[-(z.cells:Int)]}:=by
  simp only[RS.shut];rw[I,eX,Co e3,e3];rfl
 rw[Xm]at MN;refine bY MN n λFM HP7=>?_;have YI:Hid (mK w ((w5.setCell ⟨C,0,none⟩ (.slice (some ⟨g5,0,none⟩) i.opn.length B)).setCell ⟨w.heap.size,2,none⟩ (.bool true))):=(HI4.trans KY).trans ((mK.set x.y (by decide) (by decide)).trans (mK.set P (by decide) (by decide)));have HV5:Hid (zm ((w5.setCell ⟨C,0,none⟩ (.slice (some ⟨g5,0,none⟩) i.opn.length B)).setCell ⟨w.heap.size,2,none⟩ (.bool true)) RH r.1 vb):=hv5.keep ((mK.set x.y (by decide) (by decide)).trans (mK.set P (by decide) (by decide))) uf;refine bY (eD (dm E [w.heap.size]) Hp) O λRI HOB=>?_;have hs7:(r.2.ops.set i.ops.length {z with ended:=true})[i.ops.length]?=some {z with ended:=true}:=bh aax;have HS7:Hid _:=hs7;have htl:r.2.dq.length<=400000000:=by
  have h1:=VA.dq;have h2:=L.t;have h3:=VA.steps;have h4:(i.opened (aQ D)).dq=i.dq:=rfl;have h5:(i.opened (aQ D)).steps=i.steps:=rfl;rw[h4,h5]at h1;have h6:yc r.2.e<=1:=by unfold yc;split<;>omega
  have h7:d.cnt*(r.2.steps-i.steps+yc r.2.e)<=(1+d.cnt)*(l-i.steps+1):=bw (eV _ (show d.cnt<=1+d.cnt by omega)) (lW (by omega));omega
 clear MN hp6 n hv5 Hp KY x P e3 e4 O hc Xm hkeep DQ VA hs7 HI4;go_upto_region 7 with fail;obtain⟨w7,hw7⟩:=ez ((w5.setCell ⟨C,0,none⟩ (.slice (some ⟨g5,0,none⟩) i.opn.length B)).setCell ⟨w.heap.size,2,none⟩ (.bool true));rw[<-hw7];have n:=HP7;have hI7:=YI;have hV7:=HV5;rw[<-hw7]at n hI7 hV7;have HV7:Hid _:=hV7;obtain⟨i1,hi,Q,S,T⟩:=cI iJ;refine fT hi Q S T λHJ0 HJ1 HJ2 HJ3=>?_;obtain⟨ta,tc,htv⟩:=rsl n.t;have YJ:=(n.ob i.ops.length w.heap.size _ HOB HS7).2;have T2:w7.cell? ⟨C,2,none⟩=some (.slice ta r.2.dq.length tc):=by rw[aI n.y,<-htv];rfl
 have T1:cg w7 w.heap.size 1 (.int .i64 z.cells):=dR YJ rfl;have acF:=aG n.y;have aeG:=aG YJ;have HT:Hid (∀W',bg w7 W'/\W'.heap[w7.heap.size]?=some (.cells #[.int .i64 (-(z.cells:Int))] 3 (0,0))->W'.ownsRow 0 3 1 (.slice ta r.2.dq.length tc) r.2.dq.length (r.2.dq.map λk=>Value.int .i64 k)):=by
  intro W' M;have h1:=bE n.t M.1;have h2:=eA (b:=0) h1 (λ_ _=>ld);rw[htv]at h2;exact h2
 have Pk:Hid (∀W',bg w7 W'/\W'.heap[w7.heap.size]?=some (.cells #[.int .i64 (-(z.cells:Int))] 3 (0,0))->∀(j:Nat)(u:Value),[Value.int .i64 (-(z.cells:Int))][j]?=some u->W'.cell? ((⟨w7.heap.size,0,none⟩:Addr).add j)=some u):=by
  intro W' M j u hj
  match j,hj with
  |0,hj=>
   simp only[aL,ai]at hj;subst hj;show W'.cell? ⟨w7.heap.size,0,none⟩=_;rw[aI M.2];rfl
  |j+1,hj=>simp at hj
 have VB:Hid (∀u∈([Value.int .i64 (-(z.cells:Int))]:List Value),u.oneCell'=true):=by intro v hv;simp only[ax]at hv;subst hv;rfl
 have HPU:Hid _:=λ(g N:Nat)(w':World)=>n.Em (w3:=w') (g:=g) (cap:=N) (A:=.cells #[.int .i64 (-(z.cells:Int))] 3 (0,0)) (-(z.cells:Int));have HTV:Hid _:=htv;have HNE:Hid ((Value.slice ta r.2.dq.length tc).ownBlock≠some C):=by
  intro h;obtain⟨arr,hb⟩:=mL n.t (show tv5.ownBlock=some C by rw[htv];exact h);rw[n.y]at hb;simp only[ai,dh]at hb;exact absurd hb.2.1 (by decide)
 have hwr:IntKind.i64.wrap (-(z.cells:Int))=-(z.cells:Int):=nD _ (by omega);refine fw hI7 n.y n.t λHI8 HY7 HT7=>?_;clear n hI7 hV7 HV5 YJ htv HP7 YI hi Q S T hw7;go_wp2;go_region_law (refine uG rfl (.tmp 56) (.tmp 62) 42 rfl 3 i1 _ 1 8 gM HJ0 HJ1 HJ2 HJ3 rfl (by decide) (.slice ta r.2.dq.length tc) r.2.dq.length (r.2.dq.map λk=>Value.int .i64 k) (by simp[Act.eval]) (HT _ (yn rfl rfl rfl rfl)) ⟨w7.heap.size,0,none⟩ 1 1 [.int .i64 (-(z.cells:Int))] (by simp[Act.eval]) rfl (Pk _ (yn rfl rfl rfl rfl)) VB (by decide) (by unfold maxLen;omega) (by omega) ?_;intro g8 VC w8 Xn m RJ;have QI:=EB HY7 acF HNE m (sD w7 _);have c28:cg w8 C 2 tv5:=(aI QI 2).trans rfl;have f28:=aK QI 2;have l28:=aG QI)
 all_goals
  have YK:=HPU g8 VC w8 (by rw[HTV.out];exact⟨m.os,m.tape,m.output,m.size,m.block⟩) Xn (by rw[HTV.out];exact RJ);refine bY YK.1 YK.2 λHPF HIF=>?_;clear YK Xn m RJ QI;go_wp2;go_ret;rw[FM.out];exact⟨vb,_,wv5,_,RH,rfl,HV7.keep HIF uf,RI,HI8.trans HIF,HPF⟩
theorem Il(I d p:Nat)(nm W)(x y)(G:dc)(hfx:x.wf)(hfy:y.wf)(Pc:oA a I d x G)(KS:oA a I d y G)(H:∀(j:kz)(N:RS),(rW d y j N).2.e=0->N.e=0):FI a I d p .pair nm W [x,y] G:=by
 intro id site b F j hp N ov wv tv GS w hT hP hH O X he;obtain⟨gk,vc,bx,bb,FH,Cp,KQ,Cq,J,rA,s6⟩:=Vo hT;have hne:=by have:=hP.pq;have:=J.hb;omega
 have QF:=by have:=hP.pq;have:=J.hg;omega
 have hN:=Xh hT;simp only[aU]at X;have h1:=Pc FH Cp bx F j hp N ov wv tv GS _ rA hP hH (λ_=>O) (λ_=>X.le (by omega));have P:=λe=>X.on x j hfx he (by omega) e;have yT:mI d .pair (aQ W) [x,y] j N=if (rW d y j (rW d x j N).2).2.e≠0 then (.n 0,(rW d y j (rW d x j N).2).2) else tS (aQ W) (rW d x j N).1 (rW d y j (rW d x j N).2).1 (rW d y j (rW d x j N).2).2:=by simp only[mI,bT]
 rw[yT];generalize rW d x j N=r1 at*;have h2:=λY Z OG C w2 (Q:fP a w2 I Y Z OG C d r1.2) (hH2:BC w2 C j hp)=>KS KQ Cq bb F j hp r1.2 Y Z OG C w2 s6 Q hH2 (λ_=>O) (λe=>(P e).le (by omega));have i:=λe=>(P (H j r1.2 e)).on y j hfy (H j r1.2 e) (by omega) e;generalize rW d y j r1.2=z at*;obtain⟨R,hR⟩:∃R,R=if z.2.e≠0 then (RV.n 0,z.2) else tS (aQ W) r1.1 z.1 z.2:=⟨_,rfl⟩;rw[<-hR];have HRN:z.2.e=0->R=tS (aQ W) r1.1 z.1 z.2:=λh=>by rw[hR,ag (λg=>g h)]
 have YL:z.2.e≠0->R=(RV.n 0,z.2):=λh=>by rw[hR,ah h]
 have l:=J.on hP.b0;have x4:=l.c4;have ML:=l.ck 0 bx rfl;have Rp:=l.hb;have Rq:=l.hg;have acG:((bs Kw.pair.bytes).toList==[112,97,105,114])=true:=by rw[bo];decide
 have aeg:((bs Kw.pair.bytes).toList==[102,115,116])=false:=by rw[bo];decide
 have aeh:((bs Kw.pair.bytes).toList==[115,110,100])=false:=by rw[bo];decide
 have HOK:=i;unfold ptr at h1 h2;refine bY h1 h2 λH1 H2=>?_;clear l hT hP O X he yT rA s6 Pc KS h1 h2 hR P i H;show Calls _ _ #[Value.pointer (some ⟨I,0,none⟩),Value.pointer (some ⟨b,0,none⟩),_] w _;go_in;go_wp2_with fail;refine ay H1 ?_;rintro _ w2 ⟨va,Y,Z,OG,C,rfl,QC,BH,rR,Q⟩;have l:=J.on Q.b0;have z0:=l.c0;have z4:=l.c4;have QG:=l.ck 1 bb rfl;have Rs:=l.hb;have Ut:=l.hg;have hc2:=H2 Y Z OG C w2 Q (hH.keep rR BH);refine fw QC BH rR λHV HO HI=>?_;clear QC BH rR Q l H1 H2 hH x4 ML;go_wp2_with fail;refine hc2.mono ?_;rintro _ w3 ⟨vb,ov3,wv3,DK,Ru,rfl,hv3,zk,J6,K⟩;have e6:=K.c.2.2.2.1;have ul:=K.c.2.2.2.2;have l:=J.on K.b0;have u0:=l.c0;have u4:=l.c4;have ul1:=l.hb;have u3:=(K.b0.cell (p:=⟨b,3,none⟩) J.hb).trans hN;refine pd (HV.keep J6 zk) hv3 (HI.trans J6) (eD HO zk) K λHVA HVB HI3 AZ HP3=>?_;clear hv3 zk J6 K l HV HI HO hc2 z0 z4 QG;by_cases L:z.2.e=0
 ·have qe:((z.2.e:Int) !=0)=false:=by rw[L];rfl
  have i:=HOK L;have hwh:=Oz I d ov3 wv3 DK Ru z.2 w3 (aQ W) HP3 (by have:=i.o;omega) (by have:=i.w;have:=i.c;have:=i.s;have:=i.f;omega);have DQ:=Hw (aQ W) i.b;have YM:=FB z.2 (aQ W);have MN:=HRN L;have aay:z.2.cells<=20000:=by have:=i.c;have:=i.s;have:=i.f;omega
  have htl:z.2.dq.length<=400000000:=by have:=i.t;omega
  unfold tS at MN;generalize z.2.gm (aQ W)=q at*;have FM:Hid _:=MN;unfold ptr at hwh;clear L HRN YL HOK i MN;go_wp2_with fail;refine hwh.mono ?_;rintro _ w4 ⟨wv4,acH,ob,rfl,S,MY,hi4,hP4⟩;have hil:q.1<q.2.ops.length:=by rw[<-hP4.len];exact (ae.1 S).1
  obtain⟨b',B,e1,_,e3,e4⟩:=hP4.at hil;rw[S]at e1;cases e1;have hro:B.cells<=20000:=by have:=DQ.o q.1 B e3;have:=YM.2.1;omega
  have hqc:=YM.2.1;have hqt:=YM.2.2.1;have M:=hP4.WX (G:={q.2 with ops:=q.2.ops.set q.1 {B with cells:=B.cells+1} }) q.1 ob B {B with cells:=B.cells+1} S e3 1 (.int .i64 ((B.cells:Int)+1)) (by simp[nT]) rfl rfl rfl rfl rfl;have m:=M.set (st':={ {q.2 with ops:=q.2.ops.set q.1 {B with cells:=B.cells+1} } with cells:=q.2.cells+1}) 5 (.int .i64 ((q.2.cells:Int)+1)) (by simp[nS]) rfl rfl rfl rfl;have D:mK w4 ((w4.setCell ⟨ob,1,none⟩ (.int .i64 ((B.cells:Int)+1))).setCell ⟨I,5,none⟩ (.int .i64 ((q.2.cells:Int)+1))):=(mK.set e4 (by decide) (by decide)).trans (mK.set M.y (by decide) (by decide));have hone:q.2.one q.1={ { {q.2 with ops:=q.2.ops.set q.1 {B with cells:=B.cells+1} } with cells:=q.2.cells+1} with dq:=q.2.dq++[1]}:=by
   simp only[RS.one];rw[Co e3]
  have O1:cg w4 ob 1 (.int .i64 B.cells):=dR e4 rfl;have F1:=aK e4 1;have L1:=aG e4;have aei:q.2.cells<=20000:=by omega
  have C5:(w4.setCell ⟨ob,1,none⟩ (.int .i64 ((B.cells:Int)+1))).cell? ⟨I,5,none⟩=some (.int .i64 q.2.cells):=by rw[aI M.y];rfl
  have F5:=aK M.y 5;have L5:=aG M.y;refine wC m (HI3.trans (hi4.trans D)) (HVA.keep (hi4.trans D) MY) (HVB.keep (hi4.trans D) MY) (eD AZ MY) S λHP6 HI6 aaz aaA RL HOB=>?_;have HRF:Hid (R=(RV.p r1.1 z.1 q.1,{ { {q.2 with ops:=q.2.ops.set q.1 {B with cells:=B.cells+1} } with cells:=q.2.cells+1} with dq:=q.2.dq++[1]})):=by rw[FM.out,<-hone];exact rfl
  have HQT:Hid _:=hqt;clear hP4 M m D hone e4 e3 S MY hi4 HI3 HP3 HVA HVB AZ FM hwh DQ YM hqt hqc;go_upto_region 14 with fail;obtain⟨w6,hw6⟩:=ez ((w4.setCell ⟨ob,1,none⟩ (.int .i64 ((B.cells:Int)+1))).setCell ⟨I,5,none⟩ (.int .i64 ((q.2.cells:Int)+1)));rw[<-hw6];have m:=HP6;have D:=HI6;have hVA:=aaz;have hVB:=aaA;rw[<-hw6]at m D hVA hVB;obtain⟨i1,hi,hz0,hz1,hz2⟩:=cI iJ;refine fT hi hz0 hz1 hz2 λHJ0 HJ1 HJ2 HJ3=>?_;obtain⟨ta,tc,T⟩:=rsl m.t;have aeH:q.2.dq.length<=400000000:=by rw[HQT.out];exact htl
  have T2:w6.cell? ⟨I,2,none⟩=some (.slice ta q.2.dq.length tc):=by rw[aI m.y,<-T];rfl
  have L6:=aG m.y;have tY:Hid ((w6.alloc (.cells #[.int .i64 1] 3)).ownsRow 0 3 1 (.slice ta q.2.dq.length tc) q.2.dq.length (q.2.dq.map λk=>Value.int .i64 k)):=by
   have h1:=eA (b:=0) m.t (λ_ _=>ld);rw[T]at h1;exact h1.alloc _
  have VB:Hid (∀u∈([Value.int .i64 1]:List Value),u.oneCell'=true):=by intro v hv;simp only[ax]at hv;subst hv;rfl
  have HPU:Hid _:=λ(g cap:Nat)(w':World)=>m.Em (w3:=w') (g:=g) (cap:=cap) (A:=.cells #[.int .i64 1] 3) 1;have HTV:Hid _:=T;have HNE:Hid ((Value.slice ta q.2.dq.length tc).ownBlock≠some I):=by
   intro h;obtain⟨arr,hb⟩:=mL m.t (show DK.ownBlock=some I by rw[T];exact h);rw[m.y]at hb;simp only[ai,dh]at hb;exact absurd hb.2.1 (by decide)
  refine fT m.y D hVA hVB λHY6 YI HA7 Pm=>?_;clear m D hVA hVB T hi hz0 hz1 hz2 hw6 HP6 HI6 aaz aaA O1 F1 L1 C5 F5 L5;go_wp2_with (at_builtin;go_must (refine mV _ rfl (.tmp 87) (.tmp 88) 42 rfl 3 i1 _ 1 8 gM HJ0 HJ1 HJ2 HJ3 rfl (by decide) (.slice ta q.2.dq.length tc) q.2.dq.length (q.2.dq.map λk=>Value.int .i64 k) rfl tY ⟨w6.heap.size,0,none⟩ 1 1 [.int .i64 1] rfl rfl ?c1 VB (by decide) ?c3 ?c4 ?_))
  case c3=>unfold maxLen;omega
  case c4=>omega
  intro g8 VC w8 U r RJ;have QI:=EB HY6 L6 HNE r ((aM _ w6).alloc bS _);have c28:=(aI QI 2).trans rfl;have f28:=aK QI 2;have l28:=aG QI;have YK:=HPU g8 VC w8 (by rw[HTV.out];exact r) U (by rw[HTV.out];rcases RJ with h|h;exact aD h;exact aE (by simpa using h));refine bY YK.1 YK.2 λHPF HIF=>?_;clear YK U r RJ QI HPU tY;go_upto_region 15 with fail;obtain⟨w9,hw9⟩:=ez (w8.setCell ⟨I,2,none⟩ (.slice (some ⟨g8,0,none⟩) (q.2.dq.length+1) VC));rw[<-hw9];have hP9:=HPF;have V:=HIF;rw[<-hw9]at hP9 V;have E:bg w9 (w9.alloc (.cells #[.int .i64 0,.pointer (some ⟨va,0,none⟩),.pointer (some ⟨vb,0,none⟩),.pointer (some ⟨ob,0,none⟩)] 132)):=fp.alloc bS _;have BJ:Hid (rB a I d w GS R (.returned (.pointer (some ⟨w9.heap.size,0,none⟩))) (w9.alloc (.cells #[.int .i64 0,.pointer (some ⟨va,0,none⟩),.pointer (some ⟨vb,0,none⟩),.pointer (some ⟨ob,0,none⟩)] 132))):=by
   rw[HRF.out];refine⟨w9.heap.size,_,wv4,_,acH,rfl,?_,RL,YI.trans (V.trans (mK.below E)),hP9.grow E⟩;simp only[zm];exact⟨va,vb,ob,bD _ _,HOB,HA7.keep (V.trans (mK.below E)) uf,Pm.keep (V.trans (mK.below E)) uf⟩
  clear hP9 V E hw9 HPF HIF c28 f28 l28;go_wp2;go_ret;exact BJ
 ·have qe:((z.2.e:Int) !=0)=true:=by simp;omega
  refine bY (YL L) ((zeroV HP3 0 w3.heap.size rfl).pre HI3 AZ) λFM HZ=>?_;clear L HRN YL;go_wp2;go_ret;rw[FM.out];exact HZ
