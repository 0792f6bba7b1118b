import Derived.Test.YtpicaknklgccoaaGreatDoorK23
import Derived.Test.YtpicaknklgccoaaGreatDoorK21
set_option maxHeartbeats 8000000
set_option maxRecDepth 100000
namespace Go.Proofs.YtpicaknklgccoaaGreatDoor
open Tryz
variable {w z G:World}{a d u Y:Nat}{b c L:Value}{y:List Nat}{v:Array Value}{K:Bool}{P:ByteArray}{T:List Int}{N:List NR}{M:List Value}{R I:Obj}
def gf(a:List NR)(i:Int):Option Nat:=match a[i.toNat]? with
 |some n=>if n.form=4 then some n.at_ else none
 |none=>none
theorem Cx(k):dX k=4↔k=.pair:=by cases k<;>decide
mutual
theorem zG(g):∀(t:PT)(e:Sc)(d:Nat)(f:List NR),NA e t d f->(∀j,j<f.length->g[d+j]?=f[j]?)->(opn t d).filterMap (gf g)=t.tE.map (·.1)
 |.num p s,e,d,f,h,i=>by
  simp only[NA]at h;subst h;have:=i 0 (by simp);simp only[az]at this;simp[opn,gf,this,PT.tE]
 |.name p s,e,d,f,h,i=>by
  simp only[NA]at h;subst h;have:=i 0 (by simp);simp only[az]at this;simp[opn,gf,this,PT.tE]
 |.node p k m C l,e,d,f,h,i=>by
  simp only[NA]at h;obtain⟨w,x,h1,rfl⟩:=h;have o:=h1.len;have y:=Cy g l e m (j5 k) d w h1 (λj q=>by rw[i j (by simp;omega),ak q]);have u:=i w.length (by simp);rw[o,<-o,aw bS]at u;simp only[cx,aL]at u;simp only[opn,List.filterMap_cons,PT.tE];have z:gf g ((d+aU l:Nat):Int)=if k=.pair then some p else none:=by
   unfold gf;rw[bL,<-o,u];simp only[Cx]
  rw[z,y];by_cases n:k=.pair
  ·simp[n]
  ·simp[n]
theorem Cy(g):∀(v:List PT)(e:Sc)(m:List UInt8)(bs:List Bool)(d:Nat)(f:List NR),j6 e m v bs d f->(∀j,j<f.length->g[d+j]?=f[j]?)->(pF v d).filterMap (gf g)=(pJ v).map (·.1)
 |[],_,_,_,_,_,_,_=>by simp[pF,pJ]
 |_::_,_,_,[],_,_,h,_=>by simp[j6]at h
 |t::r,e,m,b::bs,d,f,h,i=>by
  simp only[j6]at h;obtain⟨a,c,h1,h2,rfl⟩:=h;have o:=h1.len;have A:=zG g t _ d a h1 (λj q=>by rw[i j (by simp;omega),ak q]);have B:=Cy g r e m bs (d+t.cnt) c h2 (λj q=>by
   have:=i (t.cnt+j) (by simp;omega);rw[<-aY]at this;rw[this,aw (by omega)]
   congr 1;omega)
  simp only[pF,pJ,jG,A,B,bz]
end
open Go.RowKit
theorem kf.acN{i}(h:kf P K a w b c (.slice (some ⟨d,0,none⟩) i.opened.length u) i)(k:Nat)(x:Int):fK a a w (w.setCell ⟨d,k,none⟩ (tZ x)) b c (.slice (some ⟨d,0,none⟩) i.opened.length u) b c (.slice (some ⟨d,0,none⟩) i.opened.length u)/\kf P K a (w.setCell ⟨d,k,none⟩ (tZ x)) b c (.slice (some ⟨d,0,none⟩) i.opened.length u) {i with opened:=i.opened.set k x}:=by
 obtain⟨n,o,p,q⟩:=h.y;have m:d≠a:=λe=>h.oy (by rw[e];rfl);have l:∀f,f≠d->(w.setCell ⟨d,k,none⟩ (tZ x)).heap[f]?=w.heap[f]?:=λf j=>lu j;refine⟨⟨rfl,rfl,rfl,by simp only[World.setCell,dB];omega,λf _ _ _ _ _ r=>l f (λe=>r (by rw[e];rfl)),λ_ h=>aD h,λ_ h=>aD h,λ_ h=>aD h⟩,?_⟩;refine⟨⟨n,o,p,by rw[l a (λe=>m e.symm)];exact q⟩,bO h.sc (λf j=>l f (λe=>h.so f j (by rw[e];rfl))),bO h.nd (λf j=>l f (λe=>h.no f j (by rw[e];rfl))),?_,h.sy,h.ny,h.oy,h.sn,h.so,h.no⟩;have e:(i.opened.set k x).map tZ=(i.opened.map tZ).set k (tZ x):=by rw[jw]
 simp only[cO];rw[e];exact (h.op.stored k (tZ x)).1
theorem M4(s)(b)(c:Nat)(f)(w)(E F C)(a)(h:kf s b c w E F C a)(hl:a.opened.length<=50000)(hA:∀(w:World)(C:Value),kf s b c w E F C {a with opened:=a.opened++[-1]}->Calls prog 152 #[ptr c] w λv x=>v=.returned (.int .i64 (f {a with opened:=a.opened++[-1]}).1)/\∃e i k,fK c c w x E F C e i k/\kf s b c x e i k (f {a with opened:=a.opened++[-1]}).2)(M:a.opened.length+1<=(f {a with opened:=a.opened++[-1]}).2.opened.length):Calls prog 123 #[ptr c] w λv x=>v=.returned (.int .i64 (p8 f a).1)/\∃e i k,fK c c w x E F C e i k/\kf s b c x e i k (p8 f a).2:=by
 obtain⟨i0,hi,N,O,P⟩:=cI iJ;have G:p8 f a=((f {a with opened:=a.opened++[-1]}).1,{ (f {a with opened:=a.opened++[-1]}).2 with opened:=(f {a with opened:=a.opened++[-1]}).2.opened.set a.opened.length (f {a with opened:=a.opened++[-1]}).1}):=rfl;obtain⟨R,hR⟩:=ez (p8 f a);rw[<-hR]at G⊢;generalize f {a with opened:=a.opened++[-1]}=X at*;obtain⟨fr,Q,S,q⟩:=h.y;have pq:=aG q;have l:=h.op;obtain⟨n,D⟩:=ez a.opened.length;obtain⟨z,A,rfl⟩:∃z A,C=.slice z n A:=by
  rcases l.2 with⟨h1,h2⟩|⟨g,B,T,h1,_⟩
  ·exact⟨none,0,by rw[h1,D,h2]⟩
  ·exact⟨_,_,by rw[h1,D]⟩
 have y7:cg w c 7 (.slice z n A):=dR q rfl;have hW:bg w (w.alloc (.cells #[.int .i64 (-1)] 3)):=(aM _ w).alloc bS _;have H:Hid ((w.alloc (.cells #[.int .i64 (-1)] 3)).ownsRow 0 3 1 (.slice z n A) n (a.opened.map tZ)):=by
  have:=bE l hW;rw[<-D]at this;exact this
 have U:(w.alloc (.cells #[.int .i64 (-1)] 3)).heap[c]?=some (.cells (o6 s b fr a.fl.isSome (a.fl.getD 0) E F (.slice z n A)) 150 (0,0)):=cR _ q;have V:Hid _:=D;have W:∀u∈[tZ (-1)],u.oneCell'=true:=by intro v hv;simp only[ax]at hv;subst hv;rfl
 unfold ptr at hA;rw[<-D]at M hl;clear Q S q l D;show Calls _ _ #[Value.pointer (some ⟨c,0,none⟩)] w _;go_in;go_wp2_with (at_builtin;go_must (refine mV _ rfl (.tmp 16) (.tmp 17) 42 rfl 3 i0 _ 1 8 gM hi N O P rfl (by decide) (.slice z n A) n (a.opened.map tZ) rfl H ⟨w.heap.size,0,none⟩ 1 1 [tZ (-1)] rfl rfl ?c1 W (by decide) ?c3 ?c4 ?_))
 case c1=>
  intro j v hj;rw[<-hj]
  first|rfl|exact dQ _ _ _ _
 case c3=>unfold maxLen;omega
 case c4=>omega
 intro g B x I m Y;have r:=kW m U h.oy;have c7:cg x c 7 (.slice z n A):=dR r rfl;have f7:=aK r 7;have o:=kf.acD (b:=g) (c:=B) h (-1) hW m (by rw[<-V.out];exact I) (by rw[show (w.alloc (.cells #[.int .i64 (-1)] 3)).heap.size=w.heap.size+1 from by simp];exact Y);rw[<-V.out]at o;have J:=o.1;go_wp2_with fail;refine (hA _ _ o.2).mono ?_;rintro _ w2 ⟨rfl,sv2,OE,Z,K,d⟩;obtain⟨L,p,rfl⟩:∃L p,Z=.slice (some ⟨L,0,none⟩) X.2.opened.length p:=by
  rcases d.op.2 with⟨h1,h2⟩|⟨g,B,T,h1,_⟩
  ·omega
  ·exact⟨_,_,h1⟩
 obtain⟨fr2,_,_,Uq⟩:=d.y;have d7:cg w2 c 7 (.slice (some ⟨L,0,none⟩) X.2.opened.length p):=dR Uq rfl;have o1:=d.op;have hoc:w2.cell? ⟨L,n,none⟩=some (tZ (X.2.opened[n]'(by omega))):=by
  rw[o1.cellAt n (by omega),aC,aa (by omega)];rfl
 have hfz:=o1.frozenAt n;have t:=kf.acN d n X.1;have yS:=J.trans (K.trans t.1);have HI2:=t.2;unfold tZ at hoc;go_wp2;go_ret;rw[G];exact⟨rfl,_,_,_,yS,by rw[<-V.out];exact HI2⟩
theorem VM(s)(a)(g:Nat)(p:s.size<=9000):∀n:Nat,YF s a g (nY a s.size n) n:=by
 intro n
 induction n with
 |zero=>
  intro w i j e b h v c;have k:b.l=[]:=dE.1 (by omega);have f:∀n:NR,({b with opened:=b.opened++[-1]}:PS).l≠[]->Gs ({b with opened:=b.opened++[-1]}:PS).tail ((λ(_:NR)(b:PS)=>((-1:Int),b)) n ({b with opened:=b.opened++[-1]}:PS).tail).2 3 1:=λ_ d=>absurd k d;have x:=FL s.size {b with opened:=b.opened++[-1]} f;refine M4 s a g _ w i j e b h (by have:=c.2.2;omega) (λw e q=>M0 s a g _ p w i j e _ q ⟨c.1,c.2.1,by simp;have:=c.2.2;omega⟩ (λd=>absurd k d)) ?_;have:=x.2.2.2.2;simpa using this
 |succ m y=>
  intro w i j e b h v c;have t:=Vx a s.size m;have o:b.tail.l.length<=m:=by simp[PS.tail];omega
  have f:∀n:NR,({b with opened:=b.opened++[-1]}:PS).l≠[]->Gs ({b with opened:=b.opened++[-1]}:PS).tail (mP a s.size (nY a s.size m) n ({b with opened:=b.opened++[-1]}:PS).tail).2 3 1:=λn _=>Ci t a s.size n _ o;refine M4 s a g _ w i j e b h (by have:=c.2.2;omega) (λw e q=>M0 s a g _ p w i j e _ q ⟨c.1,c.2.1,by simp;have:=c.2.2;omega⟩ (λd w n r=>?_)) ?_
  ·have u:0<b.l.length:=kG.2 d;refine Ix s a g (nY a s.size m) m p y t w i j e _ n r o ⟨?_,?_,?_⟩
   ·show b.scope.length+b.l.tail.length<=8999;have:=c.1;simp;omega
   ·show b.nodes.length+b.l.tail.length<=8999;have:=c.2.1;simp;omega
   ·show (b.opened++[-1]).length+4*b.l.tail.length<=49997;have:=c.2.2;simp;omega
  ·have:=(FL s.size {b with opened:=b.opened++[-1]} f).2.2.2.2;simpa using this
def cG(a b:Value):Value:=.agg #[a,b]
theorem RW{e}{t}(h:w.heap[u]?=some (.cells (o6 P K d e a b c L) t (0,0))):w.cell? ⟨u,3,none⟩=some (.bool e)/\w.cell? ⟨u,4,none⟩=some (.int .i64 a)/\w.cell? ⟨u,6,none⟩=some c/\w.cell? ⟨u,7,none⟩=some L:=
 ⟨by rw[aI h];rfl,by rw[aI h];rfl,by rw[aI h];rfl,by rw[aI h];rfl⟩
theorem IJ(s)(d)(j:Nat)(W:s.size<=9000)(w)(A B C)(l)(hl:l.length<=9000)(h:kf s d j w A B C (ps0 l)):Calls prog 91 #[ptr j] w λv X=>∃D p r,fK j j w X A B C D p r/\kf s d j X D p r (mf d s.size l)/\((∃q:Nat,(mf d s.size l).fl=some q/\v=.returned (.tuple #[cG (.slice none 0 0) (.slice none 0 0),.int .i64 q,.bool false]))\/((mf d s.size l).fl=none/\v=.returned (.tuple #[cG p r,.int .i64 0,.bool true]))):=by
 have Y:=VM s d j W l.length (w.alloc (.cells #[.slice none 0 0,.slice none 0 0] 59)) A B C (ps0 l) (h.alloc _) bS ⟨by simp[ps0];omega,by simp[ps0];omega,by simp[ps0];omega⟩;have t:=λw A B C h=>qM s d j w A B C (nY d s.size l.length (ps0 l)).2 0 W h;have L:(nY d s.size l.length (ps0 l)).2.expect s.size 0=mf d s.size l:=rfl;rw[L]at t;unfold n8 ptr at t;unfold ptr at Y;have E:=Bk.new h (.cells #[.slice none 0 0,.slice none 0 0] 59);generalize mf d s.size l=P at*;show Calls _ _ #[Value.pointer (some ⟨j,0,none⟩)] w _;go_in;go_wp2_with fail;refine Y.mono ?_;rintro _ w1 ⟨rfl,u,x,z,m,F⟩;have M:=E.keep m;go_wp2_with fail;refine (t _ _ _ _ F).mono ?_;rintro _ G ⟨rfl,o,f⟩;have i:=M.keep o;obtain⟨fr,y1,y2,y3⟩:=f.y;obtain⟨J,K,p6,p7⟩:=RW y3;have Z:cg G w.heap.size 0 (.slice none 0 0):=dR i.b rfl;have r1:cg G w.heap.size 1 (.slice none 0 0):=dR i.b rfl;have f0:=aK i.b 0;have f1:=aK i.b 1;have hne:=i.ne;have acO:j≠w.heap.size:=λe=>i.ne e.symm;have H:=m.trans o;cases k:P.fl with
 |some q=>
  rw[k]at J K;simp only[Option.isSome_some,dF]at J K;go_wp2;go_region
  all_goals
   go_wp2;obtain⟨N,O,Q⟩:=i.set f 0 (.slice none 0 0);obtain⟨R,S,b3⟩:=Q.set O 1 (.slice none 0 0);have I:Below ((G.setCell ⟨w.heap.size,0,none⟩ (.slice none 0 0)).setCell ⟨w.heap.size,1,none⟩ (.slice none 0 0)).heap.size ((G.setCell ⟨w.heap.size,0,none⟩ (.slice none 0 0)).setCell ⟨w.heap.size,1,none⟩ (.slice none 0 0)) ((G.setCell ⟨w.heap.size,0,none⟩ (.slice none 0 0)).setCell ⟨w.heap.size,1,none⟩ (.slice none 0 0)).drew:=⟨rfl,rfl,rfl,bS,λ_ _=>rfl⟩;have hF:=((((H.nb (z:=w.heap.size)).trans N).trans R).trans (fK.below j w.heap.size u x z I)).drop rfl;refine au (v:=.tuple #[.agg #[.slice none 0 0,.slice none 0 0],.int .i64 q,.bool false]) (by simp[results,results91,go_sem,Z,r1]) rfl ⟨u,x,z,hF,S.below I,aD ⟨q,k,rfl⟩⟩
 |none=>
  rw[k]at J K;simp only[Option.isSome_none,Option.getD_none]at J K;obtain⟨x6,n6,c6,e6⟩:∃a n c,x=.slice a n c:=by
   rcases f.nd.2 with⟨h1,_⟩|⟨g,T,U,h1,_⟩
   ·exact⟨_,_,_,h1⟩
   ·exact⟨_,_,_,h1⟩
  obtain⟨x7,n7,c7,e7⟩:∃a n c,z=.slice a n c:=by
   rcases f.op.2 with⟨h1,_⟩|⟨g,T,U,h1,_⟩
   ·exact⟨_,_,_,h1⟩
   ·exact⟨_,_,_,h1⟩
  subst e6;subst e7;obtain⟨N,O,Q⟩:=i.set f 0 (.slice x6 n6 c6);obtain⟨R,S,b3⟩:=Q.set O 1 (.slice x7 n7 c7);have V:=(((H.nb (z:=w.heap.size)).trans N).trans R).drop rfl;go_wp2;refine au (v:=.tuple #[.agg #[.slice x6 n6 c6,.slice x7 n7 c7],.int .i64 0,.bool true]) (by simp[results,results91,go_sem,Z,r1]) rfl ⟨u,_,_,V,S,aE ⟨k,rfl⟩⟩
theorem K6(s:ByteArray):mO s.data.toList 0=tokens s.data.toList:=by unfold mO tokens;simp
theorem K7(s:ByteArray)(a:s.size<=9000):(tokens s.data.toList).length<=9000:=by
 have:=xT s.data.toList.length 0 s.data.toList;unfold tokens;rw[fI]at this⊢;omega
structure ew(w:World)(nv ov:Value)(ns:List NR)(op:List Int): Prop where
 nd:w.ownsRow 0 160 10 nv ns.length (ns.flatMap xd)
 op:w.ownsRow 0 3 1 ov op.length (op.map tZ)
theorem ew.below(h:ew w b c N T)(a:bg w z):ew z b c N T:=⟨bE h.nd a,bE h.op a⟩
theorem YR(s)(a)(w:World)(R):kf s a (w.heap.size+1) ((w.alloc R).alloc (.cells (o6 s a 0 false 0 (.slice none 0 0) (.slice none 0 0) (.slice none 0 0)) 150)) (.slice none 0 0) (.slice none 0 0) (.slice none 0 0) (ps0 (tokens s.data.toList)):=by
 refine⟨⟨0,ld,K6 s,?_⟩,wD,wD,wD,by simp[Value.ownBlock],by simp[Value.ownBlock],by simp[Value.ownBlock],λg b=>by simp[Value.ownBlock]at b,λg b=>by simp[Value.ownBlock]at b,λg b=>by simp[Value.ownBlock]at b⟩;have h:=bD (w.alloc R) (.cells (o6 s a 0 false 0 (.slice none 0 0) (.slice none 0 0) (.slice none 0 0)) 150);have e:(w.alloc R).heap.size=w.heap.size+1:=by simp
 rw[e]at h;exact h
def IK(s:ByteArray)(a:Bool)(w:World)(v:Ending)(b:World):Prop:=
 bg w b/\
 ((∃q:Nat,(mf a s.size (tokens s.data.toList)).fl=some q/\v=.returned (.tuple #[cG (.slice none 0 0) (.slice none 0 0),.int .i64 q,.bool false]))\/
  ((mf a s.size (tokens s.data.toList)).fl=none/\∃c d,v=.returned (.tuple #[cG c d,.int .i64 0,.bool true])/\ew b c d (mf a s.size (tokens s.data.toList)).nodes (mf a s.size (tokens s.data.toList)).opened))
theorem fK.toBelow{B}(h:fK (w.heap.size+1) (w.heap.size+1) ((w.alloc R).alloc B) z (.slice none 0 0) (.slice none 0 0) (.slice none 0 0) b c L):bg w z/\z.heap[w.heap.size]?=some R/\w.heap.size+2<=z.heap.size:=by
 have e:((w.alloc R).alloc B).heap.size=w.heap.size+2:=by simp
 have d:=h.size;rw[e]at d;have a:=((aM _ w).alloc bS R).alloc (by simp) B;refine⟨⟨h.os.trans a.os,h.tape.trans a.tape,h.output.trans a.output,by omega,λk f=>?_⟩,?_,d⟩
 ·rw[h.blk k (by omega) (by omega) (by omega) (by simp[Value.ownBlock]) (by simp[Value.ownBlock]) (by simp[Value.ownBlock])];exact a.block k f
 ·rw[h.blk w.heap.size (by omega) (by omega) (by omega) (by simp[Value.ownBlock]) (by simp[Value.ownBlock]) (by simp[Value.ownBlock])];exact cR _ (bD w R)
theorem og{F}(N:F=57/\K=false\/F=87/\K=true)(s)(w)(I:s.size<=9000):Calls prog F #[.string s] w λv O=>IK s K w v O:=by
 have h:=IJ s K (w.heap.size+1) I _ _ _ _ _ (K7 s I) (YR s K w (.cells #[.slice none 0 0,.slice none 0 0] 59));unfold ptr o6 at h;unfold IK;generalize mf K s.size (tokens s.data.toList)=P at*;rcases N with⟨rfl,rfl⟩|⟨rfl,rfl⟩
 all_goals
  go_in;go_wp2_with fail;refine h.mono ?_;rintro v x ⟨Q,t,u,d,b,R⟩;obtain⟨y,r,S⟩:=d.toBelow;have J:cg x w.heap.size 0 (.slice none 0 0):=dR r rfl;have L:cg x w.heap.size 1 (.slice none 0 0):=dR r rfl;have W:=aK r 0;have X:=aK r 1;have M:Hid _:=y;rcases R with⟨q,f,rfl⟩|⟨f,rfl⟩
  ·have j:Hid _:=f;unfold cG;clear f d b y r h;go_wp2;refine au (v:=.tuple #[.agg #[.slice none 0 0,.slice none 0 0],.int .i64 q,.bool false]) (by simp[results,results57,results87,go_sem,J,L]) rfl ⟨?_,aD ⟨q,j.out,rfl⟩⟩;exact (M.out.setCell (p:=⟨w.heap.size,0,none⟩) bS _).setCell (p:=⟨w.heap.size,1,none⟩) bS _
  ·have j:Hid _:=f;obtain⟨z,A,B,T⟩:∃a n c,t=.slice a n c:=by
    rcases b.nd.2 with⟨h1,_⟩|⟨g,C,D,h1,_⟩
    ·exact⟨_,_,_,h1⟩
    ·exact⟨_,_,_,h1⟩
   obtain⟨E,G,H,U⟩:∃a n c,u=.slice a n c:=by
    rcases b.op.2 with⟨h1,_⟩|⟨g,C,D,h1,_⟩
    ·exact⟨_,_,_,h1⟩
    ·exact⟨_,_,_,h1⟩
   have l:∀k,t.ownBlock=some k->k≠w.heap.size:=λk i=>by
    rcases d.n k i with e|e
    ·simp[Value.ownBlock]at e
    ·simp at e;omega
   have m:∀k,u.ownBlock=some k->k≠w.heap.size:=λk i=>by
    rcases d.o k i with e|e
    ·simp[Value.ownBlock]at e
    ·simp at e;omega
   subst T;subst U;have V:Hid (ew ((x.setCell ⟨w.heap.size,0,none⟩ (.slice z A B)).setCell ⟨w.heap.size,1,none⟩ (.slice E G H)) (.slice z A B) (.slice E G H) P.nodes P.opened):=by
    refine⟨bO b.nd (λk i=>?_),bO b.op (λk i=>?_)⟩
    ·rw[lu (l k i),lu (l k i)]
    ·rw[lu (m k i),lu (m k i)]
   unfold cG;clear f d b y r h l m;go_wp2;refine au (v:=.tuple #[.agg #[.slice z A B,.slice E G H],.int .i64 0,.bool true]) (by simp[results,results57,results87,go_sem,J,L]) rfl ⟨?_,aE ⟨j.out,_,_,rfl,V.out⟩⟩;exact (M.out.setCell (p:=⟨w.heap.size,0,none⟩) bS _).setCell (p:=⟨w.heap.size,1,none⟩) bS _
theorem M5(n):(xd n).length=10:=rfl
theorem RX:∀(l:List NR)(i j:Nat),j<10->(l.flatMap xd)[i*10+j]?=(l[i]?).bind (λn=>(xd n)[j]?)
 |[],i,j,_=>by simp
 |x::l,0,j,a=>by
  rw[dS,ak (by rw[M5];omega)];simp
 |x::l,i+1,j,a=>by
  have:=RX l i j a;rw[dS,show (i+1)*10+j=(xd x).length+(i*10+j) from by rw[M5];omega,aw (by omega),cJ];simpa using this
theorem gN{e}{n:Nat}(h:w.ownsRow a e d b n M)(i:0<n):∃g c,b=.slice (some ⟨g,0,none⟩) n c:=by
 rcases h.2 with⟨_,h2⟩|⟨g,c,f,h1,_⟩
 ·omega
 ·exact⟨_,_,h1⟩
theorem cm{e}{n:Nat}(h:w.ownsRow a e d b n M):∃c f,b=.slice c n f:=by
 rcases h.2 with⟨h1,h2⟩|⟨g,f,i,h1,_⟩
 ·exact⟨none,0,by rw[h1,h2]⟩
 ·exact⟨_,_,h1⟩
theorem mY(w)(b c)(d)(f)(h:ew w b c d f):Calls prog 93 #[cG b c] w λv g=>v=.returned (.int .i64 d.length)/\bg w g:=by
 obtain⟨a,i,rfl⟩:=cm h.nd;obtain⟨j,e,rfl⟩:=cm h.op;unfold cG;go_in;go_wp2;go_ret;exact⟨rfl,fp.alloc bS _⟩
theorem Cz(h:w.ownsRow 0 160 10 (.slice (some ⟨a,0,none⟩) N.length d) N.length (N.flatMap xd))(k:Nat)(c:k<N.length):w.cell? ⟨a,k*10,none⟩=some (.int .i64 N[k].form)/\cg w a (k*10+1) (.int .i64 N[k].at_)/\cg w a (k*10+2) (.int .i64 N[k].dH)/\cg w a (k*10+3) (.int .i64 N[k].num)/\cg w a (k*10+4) (.string (bs N[k].word))/\w.cell? ⟨a,k*10+5,none⟩=some (.int .i64 N[k].region)/\cg w a (k*10+6) (.int .i64 N[k].source)/\cg w a (k*10+7) (.int .i64 N[k].p0)/\cg w a (k*10+8) (.int .i64 N[k].p1)/\w.cell? ⟨a,k*10+9,none⟩=some (.int .i64 N[k].p2):=by
 have b:∀j,j<10->w.cell? ⟨a,k*10+j,none⟩=(xd N[k])[j]?:=by
  intro j e;rw[h.cellAt (k*10+j) (by omega),RX N k j e,aa c];rfl
 exact⟨b 0 (by omega),b 1 (by omega),b 2 (by omega),b 3 (by omega),b 4 (by omega),b 5 (by omega),b 6 (by omega),b 7 (by omega),b 8 (by omega),b 9 (by omega)⟩
theorem M6(w:World)(b c:Value)(a:List NR)(e:List Int)(h:ew w b c a e)(k:Nat)(f:k<a.length)(l:a.length<=9000):Calls prog 94 #[cG b c,.int .i64 k] w λv i=>v=.returned (dK a[k])/\bg w i:=by
 obtain⟨g,j,rfl⟩:=gN h.nd (by omega);obtain⟨o,d,rfl⟩:=cm h.op;obtain⟨c0,p,q,r,s,t,u,x,y,z⟩:=Cz h.nd k f;have A:=(h.nd.lt g rfl).2;generalize a[k]=n at*;generalize a.length=m at*;unfold cG dK;go_in;go_wp2;refine au (v:=.agg #[.int .i64 n.form,.int .i64 n.at_,.int .i64 n.dH,.int .i64 n.num,.string (bs n.word),.int .i64 n.region,.int .i64 n.source,.int .i64 n.p0,.int .i64 n.p1,.int .i64 n.p2]) (by simp[results,results94,go_sem]) rfl ⟨rfl,(fp.alloc bS _).alloc (by simp) _⟩
theorem VN(a:Below ((w.alloc R).alloc I).drew.heap.size ((w.alloc R).alloc I).drew z):bg w z:=by
 have h1:bg w ((w.alloc R).alloc I).drew:=(((aM _ w).alloc bS R).alloc (by simp) I).trans ⟨rfl,rfl,rfl,bS,λ_ _=>rfl⟩;exact h1.trans (a.mono (by show w.heap.size<=((w.alloc R).alloc I).heap.size;simp;omega))
theorem Pq(h:w.ownsRow 0 3 1 (.slice (some ⟨a,0,none⟩) T.length d) T.length (T.map tZ))(k:Nat)(b:k<T.length):w.cell? ⟨a,k,none⟩=some (.int .i64 T[k]):=by
 rw[h.cellAt k (by omega),aC,aa b];rfl
theorem Pr(w:World)(o q:Value)(a:List NR)(b:List Int)(h:ew w o q a b)(k i:Nat)(s:k<b.length)(t:i<a.length)(c:b[k]=(i:Int))(u:a.length<=9000)(x:b.length<=60000):Calls prog 120 #[cG o q,.int .i64 k] w λv l=>v=.returned (dK a[i])/\bg w l:=by
 have d:=λ(l:World)(y:bg w l)=>M6 l o q a b (h.below y) i t u;obtain⟨J,r,rfl⟩:=gN h.nd (by omega);obtain⟨g,z,rfl⟩:=gN h.op (by omega);have c0:=Pq h.op k s;rw[c]at c0;have K:=(h.op.lt g rfl).2;clear h c;generalize a[i]=n at*;generalize a.length=m at*;generalize b.length=L at*;unfold cG dK at d;unfold cG dK;go_in;go_wp2;go_region_with (go_at_call 94;refine (d _ ?_).mono ?_;exact (((aM _ w).alloc bS _).alloc (by simp) _).trans ⟨rfl,rfl,rfl,bS,λ_ _=>rfl⟩;rintro e M ⟨rfl,f⟩;(have j:=pG f;obtain⟨c0,A,B,C,D,E,F,G,H,I⟩:=MZ j;obtain⟨N,O,P,Q,R,S,T,U,V,W⟩:=RR j))
 all_goals go_wp2
 all_goals
  refine au (v:=.agg #[.int .i64 n.form,.int .i64 n.at_,.int .i64 n.dH,.int .i64 n.num,.string (bs n.word),.int .i64 n.region,.int .i64 n.source,.int .i64 n.p0,.int .i64 n.p1,.int .i64 n.p2]) (by simp[results,results120,go_sem,c0,A,B,C,D,E,F,G,H,I]) rfl ⟨rfl,(((((((((((VN f).setCell (p:=⟨w.heap.size+1,0,none⟩) (by simp) _).setCell (p:=⟨w.heap.size+1,1,none⟩) (by simp) _).setCell (p:=⟨w.heap.size+1,2,none⟩) (by simp) _).setCell (p:=⟨w.heap.size+1,3,none⟩) (by simp) _).setCell (p:=⟨w.heap.size+1,4,none⟩) (by simp) _).setCell (p:=⟨w.heap.size+1,5,none⟩) (by simp) _).setCell (p:=⟨w.heap.size+1,6,none⟩) (by simp) _).setCell (p:=⟨w.heap.size+1,7,none⟩) (by simp) _).setCell (p:=⟨w.heap.size+1,8,none⟩) (by simp) _).setCell (p:=⟨w.heap.size+1,9,none⟩) (by simp) _)⟩
theorem kS(w)(b c)(a)(d)(h:ew w b c a d)(k:Nat)(n)(e:a[k]?=some n)(f:a.length<=9000):Calls prog 94 #[cG b c,.int .i64 k] w λv g=>v=.returned (dK n)/\bg w g:=by
 obtain⟨h1,h2⟩:=ae.1 e;rw[<-h2];exact M6 w b c a d h k h1 f
theorem tF(w)(c d)(a)(b)(h:ew w c d a b)(k i:Nat)(n)(f:b[k]?=some (i:Int))(g:a[i]?=some n)(j:a.length<=9000)(e:b.length<=60000):Calls prog 120 #[cG c d,.int .i64 k] w λv l=>v=.returned (dK n)/\bg w l:=by
 obtain⟨h1,h2⟩:=ae.1 f;obtain⟨h3,m⟩:=ae.1 g;rw[<-m];exact Pr w c d a b h k i h1 h3 h2 j e
def CA(a:List NR)(b:List Int):Prop:=b.length=a.length/\∀x∈b,0<=x/\x.toNat<a.length
def ll(a:List NR)(b:List Int):Nat×Nat:=if 100<(b.filterMap (gf a)).length then (3,((b.filterMap (gf a))[100]?).getD 0) else (0,0)
theorem jb{t}(h:Below (w.alloc (.cells #[c,b] t)).heap.size (w.alloc (.cells #[c,b] t)) z):z.cell? ⟨w.heap.size,0,none⟩=some c/\z.cell? ⟨w.heap.size,1,none⟩=some b/\w.heap.size<z.heap.size:=by
 have d:z.heap[w.heap.size]?=some (.cells #[c,b] t (0,0)):=by rw[h.block _ (by simp)];exact bD _ _
 exact⟨by rw[aI d];rfl,by rw[aI d];rfl,aG d⟩
theorem DT(w)(W X)(a)(d)(h:ew w W X a d)(Y:CA a d)(hl:a.length<=9000):Calls prog 92 #[cG W X] w λv J=>v=.returned (.tuple #[.int .i64 (ll a d).1,.int .i64 (ll a d).2])/\bg w J:=by
 have f:=λ(J:World)(hb:bg w J)=>mY J W X a d (h.below hb);have g:=λ(J:World)(hb:bg w J)(k i:Nat)(n:NR)(hk:d[k]?=some (i:Int))(L:a[i]?=some n)=>tF J W X a d (h.below hb) k i n hk L hl (by rw[Y.1];omega);obtain⟨a0,s,e0⟩:=cm h.nd;obtain⟨a1,t,e1⟩:=cm h.op;rw[Y.1]at e1;obtain⟨m,Z⟩:=ez a.length;rw[<-Z]at e0 e1 hl;subst e0;subst e1;refine bY Y Z λHO HM=>?_;unfold cG at f g;unfold cG;unfold dK at g;rw[<-Z]at f;refine bY f g λM N=>?_;obtain⟨O,u⟩:=ez (ll a d);rw[<-u];have F:Hid _:=u;clear f g Y h Z u;have P:bg w (w.alloc (.cells #[.slice a0 m s,.slice a1 m t] 59)):=(aM _ w).alloc bS _;have B:Hid _:=P;clear P;go_in;go_wp2;go_loopw [4,5,6] (λc i _ wr=>∃k p:Nat,k<=m/\i=.int .i64 k/\c=.int .i64 p/\p<=100/\Hid (p=((d.take k).filterMap (gf a)).length)/\Below (w.alloc (.cells #[.slice a0 m s,.slice a1 m t] 59)).heap.size (w.alloc (.cells #[.slice a0 m s,.slice a1 m t] 59)) wr) (λ_ i _ _=>m-(intOf i).toNat)
 case atStart=>exact⟨0,0,by omega,rfl,rfl,by omega,(by simp:(0:Nat)=((d.take 0).filterMap (gf a)).length),fp⟩
 case round=>
  obtain⟨k,p,hk,rfl,rfl,hp,HP,l⟩:=hrel;obtain⟨b0,b1,bl⟩:=jb l;have Q:=B.trans (l.mono (by simp));have C:=M wr Q;have RY:=Q.size;have G:=l.size;by_cases hlt:k<m
  ·have D:k<d.length:=by have:=HO.1;have:=HM.out;omega
   obtain⟨x0,x1⟩:=HO.2 d[k] (bZ D);obtain⟨i,L⟩:∃i:Nat,d[k]=(i:Int):=⟨d[k].toNat,by omega⟩;have R:i<a.length:=by omega
   obtain⟨n,hn⟩:∃n,a[i]?=some n:=⟨a[i],aa R⟩;have H:d[k]?=some (i:Int):=by rw[aa D,L]
   have S:gf a (i:Int)=if n.form=4 then some n.at_ else none:=by unfold gf;rw[bL,hn]
   have j:(d.take (k+1)).filterMap (gf a)=(d.take k).filterMap (gf a)++(gf a (i:Int)).toList:=by
    rw[bQ D,jG,L];cases hc:gf a (i:Int)<;>simp[hc]
   rw[S]at j;refine fw j hn H λE HN T=>?_;clear x0 x1 L R hn H S j D;go_wp2_with fail;refine C.mono ?_;rintro _ w1 ⟨rfl,x⟩;have o:=l.trans (x.mono G);obtain⟨d0,d1,dl⟩:=jb o;have g:=N w1 (B.trans (o.mono (by simp))) k i n T HN;have y:Hid _:=o;clear o x C b0 b1 l;go_wp2_with fail;refine g.mono ?_;rintro _ w2 ⟨rfl,U⟩;have z:=y.trans (U.mono y.size);have q:Hid _:=z.alloc z.size (gG n);clear z U g y d0 d1;unfold gG DS at q;by_cases K:n.form=4
   ·have q4:((n.form:Int)==4)=true:=cL (x:=4) K;have j:=E;rw[ah K]at j;have r:Hid _:=j;clear j E K;by_cases hpp:p<100
    ·go_wp2;go_roundw
     case rel=>exact⟨k+1,p+1,by omega,by go_num,by go_num,by omega,(by rw[r.out,aj,<-HP.out];rfl:p+1=((d.take (k+1)).filterMap (gf a)).length),q.out⟩
     case measure=>simp[intOf];omega
    ·have A:p=100:=by omega
     have HA:Hid (O=(3,n.at_)):=by
      have e:d.filterMap (gf a)=((d.take k).filterMap (gf a)++[n.at_])++(d.drop (k+1)).filterMap (gf a):=by
       have h1:=fX (k+1) d
       conv=>lhs;rw[<-h1]
       rw[jG,r.out];rfl
      have f:((d.take k).filterMap (gf a)).length=100:=by rw[<-HP.out];exact A
      have I:(d.filterMap (gf a))[100]?=some n.at_:=by
       rw[e,ak (by simp[f]),aw (by omega),f];rfl
      have V:100<(d.filterMap (gf a)).length:=(ae.1 I).1;rw[F.out];unfold ll;rw[ah V,I];exact rfl
     clear A;go_wp2;go_quiet (fail);go_wp2;refine au (v:=.tuple #[.int .i64 3,.int .i64 n.at_]) (by simp[results,results92,go_sem]) rfl ⟨by rw[HA.out];rfl,?_⟩;exact (B.trans (q.mono (by simp))).trans ⟨rfl,rfl,rfl,bS,λ_ _=>rfl⟩
   ·have q4:((n.form:Int)==4)=false:=aJ (x:=4) K;have j:=E;rw[ag K]at j;have r:Hid _:=j;clear j E K;go_wp2;go_roundw
    case rel=>exact⟨k+1,p,by omega,by go_num,rfl,by omega,(by rw[r.out,Option.toList_none,aN];exact HP.out:p=((d.take (k+1)).filterMap (gf a)).length),q.out⟩
    case measure=>simp[intOf];omega
  ·have HA:Hid (O=(0,0)):=by
    have M7:d.take k=d:=cw (by have:=HO.1;have:=HM.out;omega);have h1:=HP.out;rw[M7]at h1;rw[F.out];unfold ll;rw[ag (by omega)];exact rfl
   have Ps:Hid _:=l;clear l;go_wp2_with fail;refine C.mono ?_;rintro _ w1 ⟨rfl,x⟩;have DU:Hid _:=B.trans ((Ps.trans (x.mono G)).mono (by simp));clear x C;go_wp2;refine au (v:=.tuple #[.int .i64 0,.int .i64 0]) (by simp[results,results92,go_sem]) rfl ⟨by rw[HA.out];rfl,DU⟩
structure TP where
 r:Nat
 a:Nat
 b:Nat
 sz:Nat
 deriving DecidableEq
variable {x:List TP}
def GX(p:TP):List Value:=[.int .i64 p.r,.int .i64 p.a,.int .i64 p.b,.int .i64 p.sz]
def AE(p:TP):Value:=.agg #[.int .i64 p.r,.int .i64 p.a,.int .i64 p.b,.int .i64 p.sz]
def lB(a:List TP)(k:Nat):TP:=if k=0 then ⟨0,0,0,0⟩ else (a[k-1]?).getD ⟨0,0,0,0⟩
theorem Xs:∀(l:List TP)(i j:Nat),j<4->(l.flatMap GX)[i*4+j]?=(l[i]?).bind (λn=>(GX n)[j]?)
 |[],i,j,_=>by simp
 |x::l,0,j,a=>by
  rw[dS,ak (by show 0*4+j<4;omega)];simp
 |x::l,i+1,j,a=>by
  have:=Xs l i j a;rw[dS,show (i+1)*4+j=(GX x).length+(i*4+j) from by show _=4+_;omega,aw (by omega),cJ];simpa using this
theorem CB{g:Nat}(h:w.ownsRow 0 212 4 (.slice (some ⟨g,0,none⟩) x.length d) x.length (x.flatMap GX))(k:Nat)(p)(e:x[k]?=some p):w.cell? ⟨g,k*4,none⟩=some (.int .i64 p.r)/\cg w g (k*4+1) (.int .i64 p.a)/\cg w g (k*4+2) (.int .i64 p.b)/\w.cell? ⟨g,k*4+3,none⟩=some (.int .i64 p.sz):=by
 have f:=(ae.1 e).1;have c:∀j,j<4->w.cell? ⟨g,k*4+j,none⟩=(GX p)[j]?:=by
  intro j i;rw[h.cellAt (k*4+j) (by omega),Xs x k j i,e];rfl
 exact⟨c 0 (by omega),c 1 (by omega),c 2 (by omega),c 3 (by omega)⟩
theorem vM(w)(cb o:Nat)(i)(c)(k:Nat)(n:cg w cb o i)(d:w.ownsRow 0 212 4 i c.length (c.flatMap GX))(z:c.length<=9000)(A:k<=10000):Calls prog 128 #[.pointer (some ⟨cb,o,none⟩),.int .i64 k] w λv q=>v=.returned (AE (lB c k))/\bg w q:=by
 have s:=aR _ _ n;show Calls _ _ #[Value.pointer (some ⟨cb,o,none⟩),_] w _;by_cases f:k=0\/c.length<k
 ·have e:lB c k=⟨0,0,0,0⟩:=by
   unfold lB;split
   ·rfl
   ·rw[bH (by omega)];rfl
  rw[e];obtain⟨a,h,rfl⟩:=cm d;generalize c.length=m at*;unfold AE;rcases f with f|f
  ·have t:k<1:=by omega
   go_in;go_wp2;refine au (v:=.agg #[.int .i64 0,.int .i64 0,.int .i64 0,.int .i64 0]) (by simp[results,results128,go_sem]) rfl ⟨rfl,fp.alloc bS _⟩
  ·have h1:1<=k:=by omega
   go_in;go_wp2;refine au (v:=.agg #[.int .i64 0,.int .i64 0,.int .i64 0,.int .i64 0]) (by simp[results,results128,go_sem]) rfl ⟨rfl,fp.alloc bS _⟩
 ·obtain⟨g,h,rfl⟩:=gN d (by omega);obtain⟨j,rfl⟩:∃j,k=j+1:=⟨k-1,by omega⟩;have u:j<c.length:=by omega
  obtain⟨p,l⟩:∃p,c[j]?=some p:=⟨c[j],aa u⟩;have e:lB c (j+1)=p:=by unfold lB;rw[ag (by omega),fB,l];rfl
  rw[e];obtain⟨c0,B,C,D⟩:=CB d j p l;have E:=(d.lt g rfl).2;have x:((j+1:Nat):Int)=(j:Int)+1:=by omega
  have y:(j:Int)+1-1=(j:Int):=by omega
  generalize c.length=m at*;unfold AE;rw[x];go_in;go_wp2;refine au (v:=.agg #[.int .i64 p.r,.int .i64 p.a,.int .i64 p.b,.int .i64 p.sz]) (by simp[results,results128,go_sem]) rfl ⟨rfl,fp.alloc bS _⟩
theorem YS(w)(cb:Nat)(b)(a)(k:Nat)(c:cg w cb 0 b)(d:w.ownsRow 0 212 4 b a.length (a.flatMap GX))(e:a.length<=9000)(f:k<=10000):Calls prog 128 #[ptr cb,.int .i64 k] w λv g=>v=.returned (AE (lB a k))/\bg w g:=
 vM w cb 0 b a k c d e f
structure FU(cb:Nat)(w:World)(pv tv:Value)(tb:List TP)(K:List Nat): Prop where
 y:w.heap[cb]?=some (.cells #[pv,tv] 156 (0,0))
 p:w.ownsRow 0 212 4 pv tb.length (tb.flatMap GX)
 t:w.ownsRow 0 3 1 tv K.length (K.map λ(k:Nat)=>Value.int .i64 k)
 py:pv.ownBlock≠some cb
 ty:tv.ownBlock≠some cb
 pt:apart pv tv
theorem FU.below{cb:Nat}{K}(h:FU cb w b c x K)(a:bg w z):FU cb z b c x K:=
 ⟨by rw[a.block cb (aG h.y)];exact h.y,bE h.p a,bE h.t a,h.py,h.ty,h.pt⟩
def bt(K:List Nat)(i:Int):Nat:=if 0<=i then (K[i.toNat]?).getD 0 else 0
structure lM(cb o:Nat)(A:Array Value)(T:TypeId)(w:World)(pv tv:Value)(tb:List TP)(K:List Nat): Prop where
 y:w.heap[cb]?=some (.cells A T (0,0))
 a:A[o]?=some pv
 b:A[o+1]?=some tv
 p:w.ownsRow 0 212 4 pv tb.length (tb.flatMap GX)
 t:w.ownsRow 0 3 1 tv K.length (K.map λ(k:Nat)=>Value.int .i64 k)
 py:pv.ownBlock≠some cb
 ty:tv.ownBlock≠some cb
 pt:apart pv tv
theorem lM.below{cb o:Nat}{T}{e}{K}(h:lM cb o v T w e c x K)(d:bg w z):lM cb o v T z e c x K:=
 ⟨by rw[d.block cb (aG h.y)];exact h.y,h.a,h.b,bE h.p d,bE h.t d,h.py,h.ty,h.pt⟩
theorem lM.c0{cb o:Nat}{T}{K}(h:lM cb o v T w b c x K):w.cell? ⟨cb,o,none⟩=some b:=by rw[aI h.y];exact h.a
theorem lM.c1{cb:Nat}{T}{d}{K}(h:lM cb a v T w d c x K):w.cell? ⟨cb,a+1,none⟩=some c:=by rw[aI h.y];exact h.b
theorem RZ(h:v[a]?=some b):v.setIfInBounds a b=v:=by
 apply Array.ext_getElem?;intro i;rw[eI];split
 ·next e=>subst e;split;exact h.symm;next c=>rw[lE (by omega)]
 ·rfl
theorem lM.self{cb o:Nat}{T}(h:lM cb o v T w b c x y):lM cb o (v.setIfInBounds o b) T w b c x y:=by rw[RZ h.a];exact h
theorem FU.toO{cb:Nat}{K}(h:FU cb w b c x K):lM cb 0 #[b,c] 156 w b c x K:=⟨h.y,rfl,rfl,h.p,h.t,h.py,h.ty,h.pt⟩
theorem lM.toC{cb:Nat}{K}(h:lM cb 0 #[b,c] 156 w b c x K):FU cb w b c x K:=⟨h.y,h.p,h.t,h.py,h.ty,h.pt⟩
theorem nu(w)(cb o:Nat)(f)(K)(i:Int)(n:cg w cb (o+1) f)(d:w.ownsRow 0 3 1 f K.length (K.map λ(k:Nat)=>Value.int .i64 k))(p:K.length<=9000)(q:-10<=i/\i<=10000):Calls prog 127 #[.pointer (some ⟨cb,o,none⟩),.int .i64 i] w λv l=>v=.returned (.int .i64 (bt K i))/\l=w:=by
 show Calls _ _ #[Value.pointer (some ⟨cb,o,none⟩),_] w _;by_cases r:i<0
 ·have e:bt K i=0:=by unfold bt;rw[ag (by omega)]
  rw[e];obtain⟨a,b,rfl⟩:=cm d;go_in;go_wp2;go_ret;exact⟨rfl,rfl⟩
 ·obtain⟨j,rfl⟩:∃j:Nat,i=(j:Int):=⟨i.toNat,by omega⟩;by_cases h:j<K.length
  ·obtain⟨g,b,rfl⟩:=gN d (by omega);have e:bt K (j:Int)=K[j]:=by unfold bt;rw[ah (by omega),bL,aa h];rfl
   rw[e];have c:w.cell? ⟨g,j,none⟩=some (.int .i64 K[j]):=by rw[d.cellAt j (by omega),aC,aa h];rfl
   generalize K[j]=x at*;generalize K.length=m at*;go_in;go_wp2;go_ret;exact⟨rfl,rfl⟩
  ·have e:bt K (j:Int)=0:=by unfold bt;rw[ah (by omega),bL,bH (by omega)];rfl
   rw[e];obtain⟨a,b,rfl⟩:=cm d;go_in;go_wp2;go_ret;exact⟨rfl,rfl⟩
theorem qA(w)(cb:Nat)(b a)(c)(K)(i:Int)(h:FU cb w b a c K)(d:K.length<=9000)(e:-10<=i/\i<=10000):Calls prog 127 #[ptr cb,.int .i64 i] w λv f=>v=.returned (.int .i64 (bt K i))/\f=w:=
 nu w cb 0 a K i (dR h.y rfl) h.t d e
theorem R3:(prog.info? 212).map (λi=>(i.zero,i.size,i.bytes))=some (some (.agg #[.int .i64 0,.int .i64 0,.int .i64 0,.int .i64 0]),4,32):=by kernel_rfl
theorem R4:prog.underlying 152=some (.slice 212):=by kernel_rfl
def ql(r a b:Nat)(p:TP):Bool:=p.r==r&&p.a==a&&p.b==b
def kT(c:List TP)(r a b:Nat):Nat×List TP:=match c.findIdx? (ql r a b) with
 |some i=>(i+1,c)
 |none=>(c.length+1,c++[⟨r,a,b,1+(lB c a).sz+(lB c b).sz⟩])
structure AF(cb:Nat)(w w':World)(pv tv FW Hn:Value): Prop where
 os:w'.os=w.os
 tape:w'.tape=w.tape
 output:w'.output=w.output
 size:w.heap.size<=w'.heap.size
 blk:∀k,k<w.heap.size->k≠cb->pv.ownBlock≠some k->tv.ownBlock≠some k->w'.heap[k]?=w.heap[k]?
 p:∀g,FW.ownBlock=some g->pv.ownBlock=some g\/w.heap.size<=g
 t:∀g,Hn.ownBlock=some g->tv.ownBlock=some g\/w.heap.size<=g
theorem AF.trans{cb:Nat}{d f i}(h:AF cb w z b c L d)(a:AF cb z G L d f i):AF cb w G b c f i:=by
 refine⟨a.os.trans h.os,a.tape.trans h.tape,a.output.trans h.output,bw h.size a.size,?_,?_,?_⟩
 ·intro k l m n o;rw[a.blk k (cT l h.size) m (λe=>by rcases h.p k e with e|e;exact n e;omega) (λe=>by rcases h.t k e with e|e;exact o e;omega)];exact h.blk k l m n o
 ·intro g j;rcases a.p g j with e|e
  ·exact h.p g e
  ·exact aE (bw h.size e)
 ·intro g j;rcases a.t g j with e|e
  ·exact h.t g e
  ·exact aE (bw h.size e)
theorem AF.below(cb:Nat)(a b)(h:bg w z):AF cb w z a b a b:=⟨h.os,h.tape,h.output,h.size,λk c _ _ _=>h.block k c,λ_ h=>aD h,λ_ h=>aD h⟩
theorem FU.lt{cb:Nat}{K}(h:FU cb w b c x K):(∀k,b.ownBlock=some k->k<w.heap.size)/\(∀k,c.ownBlock=some k->k<w.heap.size)/\cb<w.heap.size:=
 ⟨λk a=>(h.p.lt k a).2,λk a=>(h.t.lt k a).2,aG h.y⟩
theorem lM.lt{cb:Nat}{T}{K}(h:lM cb a v T w b c x K):(∀k,b.ownBlock=some k->k<w.heap.size)/\(∀k,c.ownBlock=some k->k<w.heap.size)/\cb<w.heap.size:=
 ⟨λk d=>(h.p.lt k d).2,λk d=>(h.t.lt k d).2,aG h.y⟩
theorem lM.acP{cb:Nat}{T}{K}(h:lM cb a v T w b c x K)(e)(s:bg w z)(B:z.grownBy G b.ownBlock)(n:G.ownsRow 0 212 4 (.slice (some ⟨d,0,none⟩) (x.length+1) u) (x.length+1) (x.flatMap GX++GX e))(q:b.ownBlock=some d\/z.heap.size<=d):AF cb w (G.setCell ⟨cb,a,none⟩ (.slice (some ⟨d,0,none⟩) (x.length+1) u)) b c (.slice (some ⟨d,0,none⟩) (x.length+1) u) c/\lM cb a (v.setIfInBounds a (.slice (some ⟨d,0,none⟩) (x.length+1) u)) T (G.setCell ⟨cb,a,none⟩ (.slice (some ⟨d,0,none⟩) (x.length+1) u)) (.slice (some ⟨d,0,none⟩) (x.length+1) u) c (x++[e]) K:=by
 obtain⟨p,r⟩:=push a h.lt.2.2 h.py s B n q;obtain⟨f,_,m⟩:=p.keep h.t h.ty λd i j=>h.pt d j i;exact⟨⟨p.os,p.tape,p.output,p.size,λk i j l _=>p.kp k i j l,p.own,λ_ h=>aD h⟩,p.blk h.y,by rw[eI,ah rfl,ah (jX.1 h.a).1],by rw[eI,ag (by omega)];exact h.b,by simpa using r,f,p.ne,h.ty,m⟩
theorem Pt(h:∀(j:Nat)(p:TP),x[j]?=some p->ql d a u p=false):x.findIdx? (ql d a u)=none:=by
 rw[fS];intro c e;obtain⟨j,f⟩:=List.mem_iff_getElem?.1 e;exact h j c f
theorem R5{p}(f:x[Y]?=some p)(g:ql d a u p=true)(h:∀(j:Nat)(q:TP),j<Y->x[j]?=some q->ql d a u q=false):x.findIdx? (ql d a u)=some Y:=by
 obtain⟨c,e⟩:=ae.1 f;rw[dC];refine⟨c,by rw[e];exact g,λj i=>?_⟩;have:=h j x[j] i (aa (by omega));rw[this];simp
theorem YT(a b:Nat):((a:Int)==(b:Int))=(a==b):=by
 rw[jd];simp;omega
theorem Pu(w)(cb o:Nat)(A)(T)(pv tv)(c)(K)(r a b:Nat)(h:lM cb o A T w pv tv c K)(hl:c.length<=8999)(ha:a<=9500)(hb:b<=9500)(hsz:(lB c a).sz<=10000/\(lB c b).sz<=10000):Calls prog 155 #[.pointer (some ⟨cb,o,none⟩),.int .i64 r,.int .i64 a,.int .i64 b] w λv Q=>v=.returned (.int .i64 (kT c r a b).1)/\∃FW,AF cb w Q pv tv FW tv/\lM cb o (A.setIfInBounds o FW) T Q FW tv (kT c r a b).2 K:=by
 obtain⟨i0,hi,hz0,hz1,hz2⟩:=cI R3;refine fT hi hz0 hz1 hz2 λHI y8 za ze=>?_;clear hi hz0 hz1 hz2;have HH:Hid _:=h;obtain⟨m,hm⟩:=ez c.length;obtain⟨ao,oc,U⟩:=cm h.p;rw[<-hm]at U hl;have y0:w.cell? ⟨cb,o,none⟩=some (.slice ao m oc):=by rw[h.c0,<-U]
 have G:=h.lt.2.2;refine bY hm U λHM H=>?_;have I:=λ(Q:World)(J:bg w Q)=>vM Q cb o pv c a ((J.cell (p:=⟨cb,o,none⟩) G).trans h.c0) (bE h.p J) (by omega) (by omega);have L:=λ(Q:World)(J:bg w Q)=>vM Q cb o pv c b ((J.cell (p:=⟨cb,o,none⟩) G).trans h.c0) (bE h.p J) (by omega) (by omega);unfold AE at I L;refine bY I L λR6 HAB=>?_;clear I L h hm U;obtain⟨R,hR⟩:=ez (kT c r a b);rw[<-hR];have HR:Hid _:=hR;clear hR;obtain⟨f,V⟩:=ez (lB c a);obtain⟨E,W⟩:=ez (lB c b);rw[<-V,<-W]at hsz;rw[<-V]at R6;rw[<-W]at HAB;refine bY V W λHPA Xj=>?_;clear V W;show Calls _ _ #[Value.pointer (some ⟨cb,o,none⟩),_,_,_] w _;go_in;go_wp2;go_loopw [9,10] (λi _ wr=>∃k:Nat,k<=m/\i=.int .i64 k/\Hid (∀j q,j<k->c[j]?=some q->ql r a b q=false)/\bg w wr) (λi _ _=>m-(intOf i).toNat)
 case atStart=>exact⟨0,by omega,rfl,(λj q F=>absurd F (by omega):∀j q,j<0->c[j]?=some q->ql r a b q=false),fp⟩
 case round=>
  obtain⟨k,hk,rfl,M,s⟩:=hrel;have z0:wr.cell? ⟨cb,o,none⟩=some (.slice ao m oc):=by rw[s.cell (p:=⟨cb,o,none⟩) G];exact y0
  have hcr:cb<wr.heap.size:=by have:=s.size;omega
  by_cases hlt:k<m
  ·have hkl:k<c.length:=by have:=HM.out;omega
   obtain⟨p,hp⟩:∃p,c[k]?=some p:=⟨c[k],aa hkl⟩;have t:=bE HH.p s;obtain⟨g,cap,hsl⟩:=gN t (by omega);rw[hsl]at t;obtain⟨c0,c1,c2,c3⟩:=CB t k p hp;have hgw:g<wr.heap.size:=(t.lt g rfl).2;have eao:ao=some ⟨g,0,none⟩:=by
    have h1:=H;rw[hsl]at h1;simp only[bN]at h1;exact h1.1.symm
   subst eao;have e1:=YT p.r r;have e2:=YT p.a a;have e3:=YT p.b b;refine bY hp s λHP d=>?_;clear hp t hsl s hkl;cases S:(p.r==r) with
   |false=>
    rw[S]at e1;have x:ql r a b p=false:=by unfold ql;rw[S];rfl
    have z:Hid _:=x;clear x S e2 e3;go_wp2;go_roundw
    case rel=>exact⟨k+1,by omega,by go_num,(λj q F n=>by
     rcases iT.1 F with h1|h1
     ·exact M j q h1 n
     ·subst h1;rw[HP.out]at n;cases n;exact z:∀j q,j<k+1->c[j]?=some q->ql r a b q=false),d.alloc (by have:=d.size;omega) _⟩
    case measure=>simp[intOf];omega
   |true=>
    rw[S]at e1;cases X:(p.a==a) with
    |false=>
     rw[X]at e2;have x:ql r a b p=false:=by unfold ql;rw[S,X];rfl
     have z:Hid _:=x;clear x S X e3;go_wp2;go_roundw
     case rel=>exact⟨k+1,by omega,by go_num,(λj q F n=>by
      rcases iT.1 F with h1|h1
      ·exact M j q h1 n
      ·subst h1;rw[HP.out]at n;cases n;exact z:∀j q,j<k+1->c[j]?=some q->ql r a b q=false),d.alloc (by have:=d.size;omega) _⟩
     case measure=>simp[intOf];omega
    |true=>
     rw[X]at e2;cases q3:(p.b==b) with
     |false=>
      rw[q3]at e3;have x:ql r a b p=false:=by unfold ql;rw[S,X,q3];rfl
      have z:Hid _:=x;clear x S X q3;go_wp2;go_roundw
      case rel=>exact⟨k+1,by omega,by go_num,(λj q F n=>by
       rcases iT.1 F with h1|h1
       ·exact M j q h1 n
       ·subst h1;rw[HP.out]at n;cases n;exact z:∀j q,j<k+1->c[j]?=some q->ql r a b q=false),d.alloc (by have:=d.size;omega) _⟩
      case measure=>simp[intOf];omega
     |true=>
      rw[q3]at e3;have aaE:ql r a b p=true:=by unfold ql;rw[S,X,q3];rfl
      have FM:Hid (R=(k+1,c)):=by
       rw[HR.out];unfold kT;rw[R5 HP.out aaE M.out];exact rfl
      clear aaE S X q3;go_wp2;go_ret;rw[FM.out];have hB:=d.out.alloc (by have:=d.out.size;omega) (.cells #[.int .i64 p.r,.int .i64 p.a,.int .i64 p.b,.int .i64 p.sz] 212);exact⟨gj (by simp),pv,AF.below cb pv tv hB,(HH.out.below hB).self⟩
  ·have FM:Hid (R=(c.length+1,c++[⟨r,a,b,1+f.sz+E.sz⟩])):=by
    have hn:c.findIdx? (ql r a b)=none:=Pt (λj p F=>M.out j p (by have:=(ae.1 F).1;have:=HM.out;omega) F);rw[HR.out];unfold kT;rw[hn,HPA.out,Xj.out];exact rfl
   have hA:=R6.out wr s;have d:Hid _:=s;clear s;go_wp2_with fail;refine hA.mono ?_;rintro _ w1 ⟨rfl,hb1⟩;have N:bg w w1:=d.out.trans (hb1.mono d.out.size);have B:=N.alloc N.size (.cells #[.int .i64 f.r,.int .i64 f.a,.int .i64 f.b,.int .i64 f.sz] 212);have hB:=HAB.out _ B;have O:Hid _:=B;clear hb1 N B hA;go_wp2_with fail;refine hB.mono ?_;rintro _ C ⟨rfl,hb2⟩;have n:C.heap[w1.heap.size]?=some (.cells #[.int .i64 f.r,.int .i64 f.a,.int .i64 f.b,.int .i64 f.sz] 212 (0,0)):=by
    rw[hb2.block _ (by simp)];exact bD _ _
   have xa:C.cell? ⟨w1.heap.size,3,none⟩=some (.int .i64 f.sz):=by rw[aI n];rfl
   have xl:=aG n;have xn:=jx xl;have l:bg w C:=O.out.trans (hb2.mono O.out.size);have z2:C.cell? ⟨cb,o,none⟩=some (.slice ao m oc):=by rw[l.cell (p:=⟨cb,o,none⟩) G];exact y0
   have hc2:cb<C.heap.size:=by have:=l.size;omega
   obtain⟨Y,hY⟩:∃Y:Obj,Y=.cells #[.int .i64 E.r,.int .i64 E.a,.int .i64 E.b,.int .i64 E.sz] 212:=⟨_,rfl⟩;obtain⟨Z,hZ⟩:∃Z:Obj,Z=.cells #[.int .i64 r,.int .i64 a,.int .i64 b,.int .i64 (1+(f.sz:Int)+(E.sz:Int))] 212:=⟨_,rfl⟩;have hW:bg w ((C.alloc Y).alloc Z).drew:=((l.alloc l.size Y).alloc (by have:=l.size;simp;omega) Z).trans ⟨rfl,rfl,rfl,bS,λ_ _=>rfl⟩;have htp:GX ⟨r,a,b,1+f.sz+E.sz⟩=[.int .i64 r,.int .i64 a,.int .i64 b,.int .i64 (1+(f.sz:Int)+(E.sz:Int))]:=by
    unfold GX;simp only[ng];rfl
   have HW:Hid _:=hW;have tY:Hid (((C.alloc Y).alloc Z).drew.ownsRow 0 212 4 (.slice ao m oc) m (c.flatMap GX)):=by
    have:=bE HH.out.p hW;rw[H.out,<-HM.out]at this;exact this
   have Pk:Hid (∀(j:Nat)(u:Value),([.int .i64 r,.int .i64 a,.int .i64 b,.int .i64 (1+(f.sz:Int)+(E.sz:Int))]:List Value)[j]?=some u->((C.alloc Y).alloc Z).drew.cell? ((⟨C.heap.size+1,0,none⟩:Addr).add j)=some u):=by
    intro j u F;have n:=dQ (C.alloc Y) [.int .i64 r,.int .i64 a,.int .i64 b,.int .i64 (1+(f.sz:Int)+(E.sz:Int))] 212 j;have e:(C.alloc Y).heap.size=C.heap.size+1:=by simp
    rw[e]at n;rw[<-F,<-n,hZ];rfl
   have GU:Hid (∀u∈([.int .i64 r,.int .i64 a,.int .i64 b,.int .i64 (1+(f.sz:Int)+(E.sz:Int))]:List Value),u.oneCell'=true):=by
    intro u hu;simp only[bf,fA,lC]at hu;rcases hu with rfl|rfl|rfl|rfl<;>rfl
   have HYW:Hid (((C.alloc Y).alloc Z).drew.heap[cb]?=some (.cells A T (0,0))):=by
    show ((C.alloc Y).alloc Z).drew.heap[cb]?=_;rw[hW.block cb G];exact HH.out.y
   have HPY:Hid ((Value.slice ao m oc).ownBlock≠some cb):=by have:=HH.out.py;rw[H.out]at this;exact this
   have HTP:Hid _:=htp;subst hY;subst hZ;have hw1:IntKind.i64.wrap (1+(f.sz:Int))=1+(f.sz:Int):=nD _ (by omega);have hw2:IntKind.i64.wrap (1+(f.sz:Int)+(E.sz:Int))=1+(f.sz:Int)+(E.sz:Int):=nD _ (by omega);clear hb2 n l hW htp hB d O R6 HAB;go_wp2;go_region_law (refine uG rfl (.tmp 57) (.tmp 68) 152 rfl 212 i0 _ 4 32 R4 HI.out y8.out za.out ze.out rfl (by decide) (.slice ao m oc) m (c.flatMap GX) (by simp[Act.eval]) tY.out ⟨C.heap.size+1,0,none⟩ 1 1 _ (by simp[Act.eval]) rfl Pk.out GU.out (by decide) (by unfold maxLen;omega) (by omega) ?_;intro g cap Q hown D Mz;have Pv:=kW D HYW.out HPY.out;have c0:Q.cell? ⟨cb,o,none⟩=some pv:=(by rw[aI Pv];exact HH.out.a);have f0:=aK Pv o)
   all_goals
    have P:=lM.acP (d:=g) (u:=cap) HH.out ⟨r,a,b,1+f.sz+E.sz⟩ HW.out (by rw[H.out];exact D) (by rw[<-HM.out,HTP.out];exact hown) (by rw[H.out];exact Mz);rw[<-HM.out]at P;have VO:Hid _:=P;clear P hown D Mz;go_wp2;go_ret;rw[FM.out];exact⟨gj (by have:=HM.out;simp;omega),_,VO.out⟩
