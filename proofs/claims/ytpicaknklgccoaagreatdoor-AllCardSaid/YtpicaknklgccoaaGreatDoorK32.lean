import Derived.Test.YtpicaknklgccoaaGreatDoorK31
import Derived.Laws.CopyOwn
set_option maxHeartbeats 8000000
set_option maxRecDepth 100000
namespace Go.Proofs.YtpicaknklgccoaaGreatDoor
open Tryz
open Go.RowKit
variable {w y T:World}{a z K L:Nat}{b c d x v P:Value}{u:MM}{N:Obj}
abbrev qQ:=@below_setRow
theorem bV(h:bg w y)(o):bg w (y.alloc o):=h.alloc h.size o
theorem l6(h:Below a y w):Below a y w.drew:=h.trans ⟨rfl,rfl,rfl,bS,λ_ _=>rfl⟩
theorem Sq(w:World)(A O)(n:Nat):(((w.alloc A).alloc O).drewN n).heap[w.heap.size+1]?=some O:=by
 have:=bD (w.alloc A) O;simpa using this
theorem ku(h:bg w y)(a)(b:w.heap.size<=a.block)(u):bg w (y.setCell a u):=h.setCell (p:=a) b u
theorem jN(h:Below a w y)(c)(d:a<=c.block)(u):Below a w (y.setCell c u):=h.setCell (p:=c) d u
theorem nJ.upto{g}(h:nJ a w b c K d x v u)(h1:a<z)(h2:∀k,d.ownBlock=some k->k<z)(h3:∀k,x.ownBlock=some k->k<z)(i:∀k,v.ownBlock=some k->k<z)(f:Below z w g):nJ a g b c K d x v u:=
 ⟨by rw[f.block a h1];exact h.y,bO h.nm (λk e=>f.block k (h2 k e)),bO h.cl (λk e=>f.block k (h3 k e)),bO h.rg (λk e=>f.block k (i k e)),h.ny,h.cy,h.ry,h.nc,h.nr,h.cr⟩
theorem fK.upto(h:fK a a w y b c d x v P)(l:Below w.heap.size y T):fK a a w T b c d x v P:=
 ⟨l.os.trans h.os,l.tape.trans h.tape,l.output.trans h.output,bw h.size l.size,λk m f g i j e=>(l.block k m).trans (h.blk k m f g i j e),h.s,h.n,h.o⟩
theorem qR{b:Nat}{c:MC}(h:w.heap[b]?=some (.cells #[.bool c.a.c,.int .i64 c.a.n,.bool c.b.c,.int .i64 c.b.n,.int .i64 c.home,.int .i64 c.lA] 219)):w.cell? ⟨b,0,none⟩=some (.bool c.a.c)/\w.cell? ⟨b,1,none⟩=some (.int .i64 c.a.n)/\w.cell? ⟨b,2,none⟩=some (.bool c.b.c)/\w.cell? ⟨b,3,none⟩=some (.int .i64 c.b.n)/\w.cell? ⟨b,4,none⟩=some (.int .i64 c.home)/\w.cell? ⟨b,5,none⟩=some (.int .i64 c.lA):=by
 refine⟨?_,?_,?_,?_,?_,?_⟩<;>(rw[aI h];rfl)
theorem Lf:(prog.info? 219).map (·.size)=some 6:=by kernel_rfl
theorem xw{e:Array Oper}{rest:List Oper}{o:Oper}{a}{Q}(f:o.guard=none)(x y:Operand)(i:o.op=.store 219 x y)(j:o.dst=none)(g:Nat)(c d:MC)(k:a.eval x=.pointer (some ⟨g,0,none⟩))(l:a.eval y=Sl c)(m:w.heap[g]?=some (.cells #[.bool d.a.c,.int .i64 d.a.n,.bool d.b.c,.int .i64 d.b.n,.int .i64 d.home,.int .i64 d.lA] 219 (0,0)))(h:wpList prog e Q rest a (w.setRow g #[.bool c.a.c,.int .i64 c.a.n,.bool c.b.c,.int .i64 c.b.n,.int .i64 c.home,.int .i64 c.lA])):wpList prog e Q (o::rest) a w:=
 wpList_store_row f 219 x y i g _ k l 219 _ m Lf rfl (by simp[Value.oneCell']) (by rw[j];exact h)
theorem VW(j:Nat)(w)(tn P)(x:Nat)(L cv M)(m)(k:Nat)(c)(hl:m.cells.length<=20000)(hrl:m.regs.length<=20000)(hh:c.home<=20000)(hk:m.cells[k]?=some c)(h:nJ j w tn P x L cv M m):Calls prog 131 #[ptr j,rC ⟨true,k⟩] w λe w'=>e=.returned (Sl c)/\fK j j w w' L cv M L cv M/\nJ j w' tn P x L cv M (if m.nj c=true then m else m.stop 13):=by
 obtain⟨_,_,_,_,y6,_⟩:=fQ h.y;obtain⟨m',A⟩:∃m',m'=if m.nj c=true then m else m.stop 13:=⟨_,rfl⟩;rw[<-A];have Xq:=aG h.y;have hkl:=(ae.1 hk).1;obtain⟨g,Q,rfl⟩:=gN h.cl (by omega);obtain⟨R,c1,c2,c3,c4,c5⟩:=IZ h.cl k c hk;have N:=(h.cl.lt g rfl).2;have hd:decide ((m.cells.length:Int)<=(k:Int))=false:=cd (by omega);have Y6:decide (m.cells.length<=k)=false:=cd (by omega);have hd3:(k:Int)<(m.cells.length:Int):=by omega
 have B:=λW (hW:bg w W)=>Le j W _ _ _ _ _ _ m c hrl hh (h.below hW);have C:=λW (hW:bg w W)=>IX j W _ _ _ _ _ _ m 13 (h.below hW);unfold ptr Sl at B;unfold ptr at C;unfold ptr rC Sl;generalize hlen:m.cells.length=n at*;go_in;go_wp2;go_quiet (fail);rename_i nq;obtain⟨f,o⟩:∃W,W=((w.alloc (.cells #[.bool true,.int .i64 k] 171)).alloc (.cells #[.bool false,.int .i64 0,.bool false,.int .i64 0,.int .i64 0,.int .i64 0] 219)).drewN nq:=⟨_,rfl⟩;rw[<-o];have d:bg w f:=by
  rw[o];exact gD (bV (bV fp _) _)
 have D:f.heap[w.heap.size]?=some (.cells #[.bool true,.int .i64 k] 171):=by
  rw[o];exact cR _ (bD w _)
 have x1:cg f w.heap.size 1 (.int .i64 k):=dR D rfl;have x0:cg f w.heap.size 0 (.bool true):=dR D rfl;have z6:=(d.cell (p:=⟨j,6,none⟩) Xq).trans y6;have e0:=(d.cell (p:=⟨g,k*6,none⟩) N).trans R;have e1:=(d.cell (p:=⟨g,k*6+1,none⟩) N).trans c1;have e2:=(d.cell (p:=⟨g,k*6+2,none⟩) N).trans c2;have e3:=(d.cell (p:=⟨g,k*6+3,none⟩) N).trans c3;have e4:=(d.cell (p:=⟨g,k*6+4,none⟩) N).trans c4;have e5:=(d.cell (p:=⟨g,k*6+5,none⟩) N).trans c5;have hw1:w.heap.size+2=f.heap.size:=by rw[o];simp
 have S:j<f.heap.size:=by omega
 have T:g<f.heap.size:=by omega
 have U:w.heap.size<f.heap.size:=by omega
 have V:f.heap[w.heap.size+1]?=some (.cells #[.bool false,.int .i64 0,.bool false,.int .i64 0,.int .i64 0,.int .i64 0] 219):=by
  rw[o];have:=bD (w.alloc (.cells #[.bool true,.int .i64 k] 171)) (.cells #[.bool false,.int .i64 0,.bool false,.int .i64 0,.int .i64 0,.int .i64 0] 219);simpa using this
 have X:Hid _:=d;clear D o y6 R c1 c2 c3 c4 c5 d;go_wp2;go_region
 all_goals
  go_wp2_with fail;have hC:bg w (f.alloc (.cells #[.bool c.a.c,.int .i64 c.a.n,.bool c.b.c,.int .i64 c.b.n,.int .i64 c.home,.int .i64 c.lA] 219)).drew:=l6 (bV X _);refine ay (B _ hC) ?_;rintro _ w2 ⟨rfl,u⟩;have Y:=hC.trans (u.mono hC.size);have hq:w2.heap[f.heap.size]?=some (.cells #[.bool c.a.c,.int .i64 c.a.n,.bool c.b.c,.int .i64 c.b.n,.int .i64 c.home,.int .i64 c.lA] 219):=by
   rw[u.block _ (by simp)];exact bD f _
  have hr:w2.heap[w.heap.size+1]?=some (.cells #[.bool c0.a.c,.int .i64 c0.a.n,.bool c0.b.c,.int .i64 c0.b.n,.int .i64 c0.home,.int .i64 c0.lA] 219):=by
   rw[u.block _ (by simp;omega)];exact cR _ V
  refine fw hq hr Y λO E s=>?_;clear hq hr Y u hC;have hne:f.heap.size≠w.heap.size+1:=by omega
  have Z:w.heap.size<=w.heap.size+1:=by omega
  have hqw:w.heap.size<=f.heap.size:=by omega
  clear x0 x1 z6 e0 e1 e2 e3 e4 e5 S T U hw1 hd Y6 hd3 V X B;generalize w.heap.size+1=r at*;generalize f.heap.size=q at*;obtain⟨bl,F⟩:∃bl,m.nj c=bl:=⟨_,rfl⟩;rw[F];cases bl with
  |true=>
   have G:Hid (m'=m):=by have:=A;rw[F]at this;exact this
   obtain⟨a0,a1,a2,a3,a4,a5⟩:=qR O;have hlq:=aG O;have hlr:=aG E;go_upto_region 6 with fail;go_step;go_step;go_step;go_step;refine xw rfl (.tmp 4) (.tmp 39) rfl rfl r c c0 rfl rfl E ?_;have H:=o5 w2 r _ #[.bool c.a.c,.int .i64 c.a.n,.bool c.b.c,.int .i64 c.b.n,.int .i64 c.home,.int .i64 c.lA] 219 (0,0) E;have i:=qQ s Z #[.bool c.a.c,.int .i64 c.a.n,.bool c.b.c,.int .i64 c.b.n,.int .i64 c.home,.int .i64 c.lA];generalize w2.setRow r #[.bool c.a.c,.int .i64 c.a.n,.bool c.b.c,.int .i64 c.b.n,.int .i64 c.home,.int .i64 c.lA]=w5 at H i⊢;obtain⟨s0,s1,s2,s3,s4,s5⟩:=qR H;have t:Hid _:=i;clear H i E O s a0 a1 a2 a3 a4 a5;go_wp2;refine au (v:=.agg #[.bool c.a.c,.int .i64 c.a.n,.bool c.b.c,.int .i64 c.b.n,.int .i64 c.home,.int .i64 c.lA]) (by simp[results,results131,go_sem,s0,s1,s2,s3,s4,s5]) rfl ⟨rfl,?_,?_⟩
   ·exact fK.below j j _ _ _ t
   ·rw[G.out];exact h.below t
  |false=>
   have G:Hid (m'=m.stop 13):=by have:=A;rw[F]at this;exact this
   go_wp2_with fail;refine ay (C _ s) ?_;rintro _ w3 ⟨rfl,l,z⟩;obtain⟨l1,l2,l3,l4⟩:=h.slt;have I:=(l.blk q (aG O) (by omega) (by omega) (λe=>by have:=l1 _ e;omega) (λe=>by have:=l2 _ e;omega) (λe=>by have:=l3 _ e;omega)).trans O;have J:=(l.blk r (aG E) (by omega) (by omega) (λe=>by have:=l1 _ e;omega) (λe=>by have:=l2 _ e;omega) (λe=>by have:=l3 _ e;omega)).trans E;refine fw ((fK.below j j L (.slice (some ⟨g,0,none⟩) n Q) M s).trans l) z J λU1 HIN K=>?_;obtain⟨a0,a1,a2,a3,a4,a5⟩:=qR I;have hlq:=aG I;have hlr:=aG J;have HL:Hid (j<w.heap.size/\(∀k,L.ownBlock=some k->k<w.heap.size)/\(∀k,(Value.slice (some ⟨g,0,none⟩) n Q).ownBlock=some k->k<w.heap.size)/\(∀k,M.ownBlock=some k->k<w.heap.size)):=⟨l4,l1,l2,l3⟩;clear I J l z O E s C h l1 l2 l3 l4;go_upto_region 6 with fail;go_step;go_step;go_step;go_step;refine xw rfl (.tmp 4) (.tmp 39) rfl rfl r c c0 rfl rfl K ?_;have H:=o5 w3 r _ #[.bool c.a.c,.int .i64 c.a.n,.bool c.b.c,.int .i64 c.b.n,.int .i64 c.home,.int .i64 c.lA] 219 (0,0) K;have i:=qQ (aM w.heap.size w3) Z #[.bool c.a.c,.int .i64 c.a.n,.bool c.b.c,.int .i64 c.b.n,.int .i64 c.home,.int .i64 c.lA];generalize w3.setRow r #[.bool c.a.c,.int .i64 c.a.n,.bool c.b.c,.int .i64 c.b.n,.int .i64 c.home,.int .i64 c.lA]=w5 at H i⊢;obtain⟨s0,s1,s2,s3,s4,s5⟩:=qR H;have t:Hid _:=i;clear H i K a0 a1 a2 a3 a4 a5;go_wp2;refine au (v:=.agg #[.bool c.a.c,.int .i64 c.a.n,.bool c.b.c,.int .i64 c.b.n,.int .i64 c.home,.int .i64 c.lA]) (by simp[results,results131,go_sem,s0,s1,s2,s3,s4,s5]) rfl ⟨rfl,?_,?_⟩
   ·exact U1.upto t
   ·rw[G.out];exact HIN.upto HL.1 HL.2.1 HL.2.2.1 HL.2.2.2 t
theorem Za(mb:Nat)(w)(tn Sn)(fuel:Nat)(nv cv rv)(m)(v)(hl:m.cells.length<=20000)(hv:v.bd)(hc:v.c=false\/v.n<0\/(m.cells.length:Int)<=v.n)(h:nJ mb w tn Sn fuel nv cv rv m):Calls prog 131 #[ptr mb,rC v] w λe w'=>e=.returned (Sl c0)/\bg w w':=by
 obtain⟨_,_,_,_,y6,_⟩:=fQ h.y;have Xq:=aG h.y;obtain⟨ao,cap,rfl⟩:=cm h.cl;unfold MV.bd at hv;unfold ptr rC Sl;obtain⟨vc,vn⟩:=v;simp only at hc hv;generalize m.cells.length=n at*;have hcc:vc=false\/(vc=true/\vn<0)\/(vc=true/\decide (vn<0)=false/\(n:Int)<=vn):=by
  cases vc
  ·exact aD rfl
  ·rcases hc with hc|hc|hc
   ·cases hc
   ·exact aE (aD ⟨rfl,hc⟩)
   ·exact aE (aE ⟨rfl,cd (by omega),hc⟩)
 rcases hcc with rfl|⟨rfl,h1⟩|⟨rfl,h1,h2⟩
 all_goals
  go_in;go_wp2;go_quiet (fail);rename_i nq
  first
  |(obtain⟨W1,hW1⟩:∃W,W=((w.alloc (.cells #[.bool false,.int .i64 vn] 171)).alloc (.cells #[.bool false,.int .i64 0,.bool false,.int .i64 0,.int .i64 0,.int .i64 0] 219)).drewN nq:=⟨_,rfl⟩;rw[<-hW1])
  |(obtain⟨W1,hW1⟩:∃W,W=((w.alloc (.cells #[.bool true,.int .i64 vn] 171)).alloc (.cells #[.bool false,.int .i64 0,.bool false,.int .i64 0,.int .i64 0,.int .i64 0] 219)).drewN nq:=⟨_,rfl⟩;rw[<-hW1])
  have hb1:bg w W1:=by
   rw[hW1];exact gD (bV (bV fp _) _)
  have VA:W1.heap[w.heap.size+1]?=some (.cells #[.bool c0.a.c,.int .i64 c0.a.n,.bool c0.b.c,.int .i64 c0.b.n,.int .i64 c0.home,.int .i64 c0.lA] 219):=by
   rw[hW1];exact Sq w _ _ nq
  have Sv:w.heap.size<=w.heap.size+1:=by omega
  clear hW1 y6;generalize w.heap.size+1=r at*;go_upto_region 2 with fail;go_step;go_step;go_step;go_step;refine xw rfl (.tmp 4) (.tmp 24) rfl rfl r c0 c0 rfl rfl VA ?_;have hN:=o5 W1 r _ #[.bool c0.a.c,.int .i64 c0.a.n,.bool c0.b.c,.int .i64 c0.b.n,.int .i64 c0.home,.int .i64 c0.lA] 219 (0,0) VA;have hBN:=qQ hb1 Sv #[.bool c0.a.c,.int .i64 c0.a.n,.bool c0.b.c,.int .i64 c0.b.n,.int .i64 c0.home,.int .i64 c0.lA];generalize W1.setRow r #[.bool c0.a.c,.int .i64 c0.a.n,.bool c0.b.c,.int .i64 c0.b.n,.int .i64 c0.home,.int .i64 c0.lA]=w5 at hN hBN⊢;obtain⟨s0,s1,s2,s3,s4,s5⟩:=qR hN;go_wp2;refine au (v:=.agg #[.bool c0.a.c,.int .i64 c0.a.n,.bool c0.b.c,.int .i64 c0.b.n,.int .i64 c0.home,.int .i64 c0.lA]) (by simp[results,results131,go_sem,s0,s1,s2,s3,s4,s5]) rfl ⟨rfl,hBN⟩
theorem Ni(b:Nat)(w)(l d)(a:Nat)(g i j)(m)(v)(o:ui a m)(A:a<=20000)(x:v.bd)(h:nJ b w l d a g i j m):Calls prog 131 #[ptr b,rC v] w λe t=>e=.returned (Sl (m.use v).1)/\fK b b w t g i j g i j/\nJ b t l d a g i j (m.use v).2:=by
 have h1:=o.steps;have h2:=o.cells;unfold MM.use;by_cases p:v.c=false\/v.n<0\/(m.cells.length:Int)<=v.n
 ·rw[ah p];exact (Za b w l d a g i j m v (by omega) x p h).mono (λ_ _ q=>⟨q.1,fK.below b b _ _ _ q.2,h.below q.2⟩)
 ·rw[ag p];have r:v.c=true:=by cases y:v.c with
   |true=>rfl
   |false=>exact absurd (aD y) p
  obtain⟨k,u⟩:∃k:Nat,v.n=k:=⟨v.n.toNat,by omega⟩;have s:k<m.cells.length:=by omega
  obtain⟨c,f⟩:∃c,m.cells[k]?=some c:=⟨_,aa s⟩;have e:v=⟨true,k⟩:=by rw[<-r,<-u]
  have z:m.cells.getD v.n.toNat c0=c:=by rw[u,bL,aZ,f];rfl
  rw[z,e];exact VW b w l d a g i j m k c (by omega) o.regs (o.cell c (aq f)).2.2.1 f h
theorem Lg(s:Nat)(w)(v f)(c:Nat)(x z A)(m)(k:Int)(h1:1<=m.regs.length)(B:m.regs.length<=20000)(h:nJ s w v f c x z A m):Calls prog 197 #[ptr s,.int .i64 k] w λe C=>e=.returned (.int .i64 (m.home k))/\C=w:=by
 obtain⟨_,_,_,_,_,D,_⟩:=fQ h.y;have E:=aG h.y;obtain⟨g,F,rfl⟩:=gN h.rg (by omega);have a:=λj r t=>(tH h.rg j r t).1;obtain⟨H,l⟩:=ez (m.home k);have G:Hid _:=l;rw[<-l];obtain⟨n,o⟩:=ez m.regs.length;have u:Hid _:=o;rw[<-o]at D h1 B;have L:=(h.rg.lt g rfl).2;clear h l o;unfold ptr;go_in;go_wp2;go_loop [5] (λi=>∃j:Nat,j<n/\i=.int .i64 j/\H=rJ m.regs k j) (λi=>(intOf i).toNat)
 case atStart=>exact⟨n-1,by omega,by rw[show ((n:Int)-1)=((n-1:Nat):Int) from by omega],by rw[G.out,u.out];rfl⟩
 case round=>
  obtain⟨j,t,rfl,b⟩:=hrel;have p:Hid _:=b;clear b;cases j with
  |zero=>
   go_wp2;go_ret;exact⟨by rw[p.out];rfl,rfl⟩
  |succ j=>
   obtain⟨r,b⟩:∃r,m.regs[j+1]?=some r:=⟨_,aa (by have:=u.out;omega)⟩;have I:=a (j+1) r b;by_cases d:r.num=k
   ·have q:rJ m.regs k (j+1)=j+1:=by simp only[rJ];rw[b,ah (by simp[d])]
    have J:=q;rw[d]at I;go_wp2;go_ret;exact⟨gj (by rw[p.out,J];omega),rfl⟩
   ·have q:rJ m.regs k (j+1)=rJ m.regs k j:=by simp only[rJ];rw[b,ag (by simp[d])]
    have K:(r.num==k)=false:=by rw[aH];exact d
    go_wp2;go_round
    case rel=>exact⟨j,by omega,rfl,by rw[p.out,q]⟩
    case measure=>simp[intOf]
theorem PH:(prog.info? 216).map (λi=>(i.zero,i.size,i.bytes))=some (some (.agg #[.int .i64 0,.int .i64 0,.int .i64 0]),3,24):=by kernel_rfl
theorem PI:prog.underlying 167=some (.slice 216):=by kernel_rfl
theorem Zb(r):∀u∈F3 r,u.oneCell'=true:=by intro u a;simp[F3]at a;rcases a with rfl|rfl|rfl<;>rfl
theorem nJ.ac5{s}(h:nJ a w b c z d x v u)(r)(A:bg w s)(B:s.grownBy T v.ownBlock)(q:T.ownsRow 0 216 3 (.slice (some ⟨K,0,none⟩) (u.regs.length+1) L) (u.regs.length+1) (u.regs.flatMap F3++F3 r))(t:v.ownBlock=some K\/s.heap.size<=K):fK a a w (T.setCell ⟨a,7,none⟩ (.slice (some ⟨K,0,none⟩) (u.regs.length+1) L)) d x v d x (.slice (some ⟨K,0,none⟩) (u.regs.length+1) L)/\nJ a (T.setCell ⟨a,7,none⟩ (.slice (some ⟨K,0,none⟩) (u.regs.length+1) L)) b c z d x (.slice (some ⟨K,0,none⟩) (u.regs.length+1) L) {u with regs:=u.regs++[r]}:=by
 obtain⟨p,r⟩:=push 7 h.slt.2.2.2 h.ry A B q t;obtain⟨e,f,_⟩:=p.keep h.nm h.ny h.nr;obtain⟨n,o,_⟩:=p.keep h.cl h.cy h.cr;exact⟨⟨p.os,p.tape,p.output,p.size,λk i j _ _ _ l=>p.kp k i j l,λ_ h=>aD h,λ_ h=>aD h,p.own⟩,p.blk h.y,e,n,by simpa using r,h.ny,h.cy,p.ne,h.nc,f,o⟩
theorem I0(b:Nat)(w)(x l)(c:Nat)(o p n)(m)(k:Int)(Q:m.regs.length<=20000)(R:m.opened<=4000000000)(h:nJ b w x l c o p n m):Calls prog 97 #[ptr b,.int .i64 k] w λe q=>e=.returned (.tuple #[])/\∃r,fK b b w q o p n o p r/\nJ b q x l c o p r (m.opn k):=by
 obtain⟨N,O,z,A,C⟩:=cI PH;obtain⟨_,_,_,_,_,S,T,_⟩:=fQ h.y;have D:=aG h.y;obtain⟨B,M⟩:∃B:Obj,B=.cells #[.int .i64 k,.int .i64 m.opened,.int .i64 0] 216:=⟨_,rfl⟩;have E:=sD w B;have s:(w.alloc B).drew.ownsRow 0 216 3 n m.regs.length (m.regs.flatMap F3):=bE h.rg E;have F:Hid (∀(j:Nat)(u:Value),(F3 ⟨k,m.opened,0⟩)[j]?=some u->(w.alloc B).drew.cell? ((⟨w.heap.size,0,none⟩:Addr).add j)=some u):=by
  intro j u P;rw[<-P,<-(dQ w (F3 ⟨k,m.opened,0⟩) 216 j),M];rfl
 have G:Hid ((w.alloc B).drew.heap[b]?=some (.cells (vO x l c o p n m) 169 (0,0))):=by
  show (w.alloc B).drew.heap[b]?=_;rw[E.block b D];exact h.y
 have H:=h.ry;unfold ptr;go_in;subst M;go_wp2;go_region_law (refine uG rfl (.tmp 8) (.tmp 15) 167 rfl 216 N _ 3 24 PI O z A C rfl (by decide) n m.regs.length (m.regs.flatMap F3) (by simp[Act.eval]) s ⟨w.heap.size,0,none⟩ 1 1 (F3 ⟨k,m.opened,0⟩) (by simp[Act.eval]) rfl F (Zb _) (by decide) (by unfold maxLen;omega) (by omega) ?_;intro g I q t d J;have f:=kW d G H;have U:q.cell? ⟨b,7,none⟩=some n:=(by rw[aI f];rfl);have V:=aK f 7)
 all_goals
  have a:=nJ.ac5 h ⟨k,m.opened,0⟩ E d t J;have i:=a.2.PG (m.opn k) 8 (.int .i64 ((m.opened:Int)+1)) rfl rfl rfl rfl;have K:=a.1.trans i.1;have L:=i.2;have W:(q.setCell ⟨b,7,none⟩ (.slice (some ⟨g,0,none⟩) (m.regs.length+1) I)).cell? ⟨b,8,none⟩=some (.int .i64 m.opened):=by rw[aI a.2.y];rfl
  have X:=aK a.2.y 8;go_wp2;refine bP (v:=.tuple #[]) (by simp[results,results97,go_sem]) rfl ⟨rfl,_,K,L⟩
theorem Lh(l:List MR):(l.flatMap F3).take ((l.length-1)*3)=l.dropLast.flatMap F3:=by
 rcases List.eq_nil_or_concat l with rfl|⟨r,x,rfl⟩
 ·rfl
 ·rw[List.concat_eq_append,eX,kH,aj,bG,fB];have b:(r.flatMap F3).length=r.length*3:=by
   induction r with
   |nil=>rfl
   |cons a r c=>simp[F3,c];omega
  rw[<-b,List.take_left]
theorem nJ.aaQ{n:Nat}(h:nJ a w b c z d x (.slice (some ⟨K,0,none⟩) n L) u)(j:n=u.regs.length)(h1:1<=n):fK a a w (w.setCell ⟨a,7,none⟩ (.slice (some ⟨K,0,none⟩) (n-1) L)) d x (.slice (some ⟨K,0,none⟩) n L) d x (.slice (some ⟨K,0,none⟩) (n-1) L)/\nJ a (w.setCell ⟨a,7,none⟩ (.slice (some ⟨K,0,none⟩) (n-1) L)) b c z d x (.slice (some ⟨K,0,none⟩) (n-1) L) {u with regs:=u.regs.dropLast}:=by
 have o:K≠a:=λe=>h.ry (by rw[e];rfl);have p:w.ownsRow 0 216 3 (.slice (some ⟨K,0,none⟩) (n-1) L) (n-1) (u.regs.dropLast.flatMap F3):=by
  have i:=h.rg;rw[<-j]at i;have:=zz i (n-1) (by omega);rw[j,Lh]at this;rw[j];exact this
 have l:∀k,k≠a->(w.setCell ⟨a,7,none⟩ (.slice (some ⟨K,0,none⟩) (n-1) L)).heap[k]?=w.heap[k]?:=λk f=>lu f;refine⟨⟨rfl,rfl,rfl,by simp only[World.setCell,dB];omega,λk _ q _ _ _ _=>l k q,λ_ h=>aD h,λ_ h=>aD h,λ_ h=>aD h⟩,?_⟩;refine⟨bu h.y 7 _,bO h.nm (λk f=>l k (λe=>h.ny (by rw[f,e]))),bO h.cl (λk f=>l k (λe=>h.cy (by rw[f,e]))),?_,h.ny,h.cy,by simp[Value.ownBlock];exact o,h.nc,λk f=>h.nr k f,λk f=>h.cr k f⟩;have:=bO (x:=w.setCell ⟨a,7,none⟩ (.slice (some ⟨K,0,none⟩) (n-1) L)) p (λk f=>l k (by simp[Value.ownBlock]at f;omega));simp[<-j];exact this
theorem nJ.drew(h:nJ a w b c z d x v u):nJ a w.drew b c z d x v u:=h.below (l6 fp)
theorem fK.drew(h:fK a a w y b c d x v P):fK a a w y.drew b c d x v P:=h.upto (l6 fp)
theorem Sr(o:Nat)(w)(D q)(a:Nat)(z A E)(m)(h1:1<=m.regs.length)(T:a<=20000)(p:ui a m)(h:nJ o w D q a z A E m):Calls prog 156 #[ptr o] w λe F=>e=.returned (.tuple #[])/\∃s,fK o o w F z A E z A s/\nJ o F D q a z A s m.fin:=by
 obtain⟨r,B⟩:∃r,m.regs[m.regs.length-1]?=some r:=⟨_,aa (by omega)⟩;have b:m.regs.getLast?=some r:=by rw[jY];exact B
 have f:m.fin={m with live:=m.live-r.cells,regs:=m.regs.dropLast}:=by unfold MM.fin;rw[b]
 rw[f];have H:=p.regs;have I:=p.live;have J:=p.sum;have K:=p.cells;have L:=p.steps;have M:r.cells<=qi m.regs:=by
  have:=yf m.regs _ r ⟨0,0,0⟩ B;simp only at this;omega
 have N:-100000<=m.live-r.cells/\m.live-r.cells<=100000:=by omega
 obtain⟨_,_,_,_,_,O,_,U,_⟩:=fQ h.y;have V:=aK h.y 9;have W:=aK h.y 7;have P:=aG h.y;obtain⟨g,t,rfl⟩:=gN h.rg (by omega);obtain⟨_,_,Q⟩:=tH h.rg (m.regs.length-1) r B;have X:=(h.rg.lt g rfl).2;have R:g≠o:=λe=>h.ry (by rw[e];rfl);have u:m.regs.length<=t:=by
  rcases h.rg.2 with⟨h1,h2⟩|⟨S,x,C,h1,_,_,h3,_⟩
  ·omega
  ·simp only[bN]at h1;omega
 have i:t<=maxLen:=by
  rcases h.rg.2 with⟨h1,h2⟩|⟨S,x,C,h1,_,_,_,h3,_⟩
  ·omega
  ·simp only[bN]at h1;omega
 unfold maxLen at i;have j:=h.PG {m with live:=m.live-r.cells} 9 (.int .i64 (m.live-r.cells)) rfl rfl rfl rfl;have k:=j.2.aaQ rfl h1;have c:=(j.1.trans k.1).drew;have d:=k.2.drew;clear h j k B b f p I J K L M;simp only at c d;obtain⟨n,G⟩:=ez (m.regs.length-1);have l:m.regs.length=n+1:=by omega
 rw[<-G]at Q;rw[l]at c d O H u h1;simp only[fB]at c d;rw[l];clear G l;generalize m.live=Y at*;generalize r.cells=Z at*;unfold ptr;go_in;go_wp2;go_region
 all_goals
  go_wp2;refine bP (v:=.tuple #[]) (by simp[results,results156,go_sem]) rfl ⟨rfl,_,c,d⟩
theorem I1{a:Type}(f:a->List Value)(s:Nat)(b:∀x,(f x).length=s)(l:List a):(l.flatMap f).length=l.length*s:=by
 induction l with
 |nil=>simp
 |cons x l c=>rw[dS,aj,b,c,aF,mU];omega
theorem Ss{n:Type}(f:n->List Value)(s:Nat)(m:∀x,(f x).length=s)(l:List n)(k j:Nat)(x y:n)(v)(p:l[k]?=some x)(q:j<s)(t:f y=(f x).set j v):(l.flatMap f).set (k*s+j) v=(l.set k y).flatMap f:=by
 have r:=(ae.1 p).1;apply fD;intro i;have b:=Nat.div_add_mod' i s;have d:=oY i (show 0<s by omega);have g:=qp f s m (l.set k y) (i / s) (i%s) d;have a:=qp f s m l (i / s) (i%s) d;rw[b]at g a;rw[g];by_cases c:i / s=k
 ·rw[c]at b a⊢;rw[bh r,jR,t];by_cases h:i%s=j
  ·rw[h,bh (by rw[m];exact q)];rw[<-b,h,bh];rw[I1 f s m]
   calc k*s+j<k*s+s:=by omega
    _=(k+1)*s:=by rw[mU]
    _<=l.length*s:=eV s r
  ·rw[bI (by omega),bI (by omega),a,p];rfl
 ·have o:k*s+j≠i:=by
   intro e;apply c;rw[<-e,Nat.mul_comm,Nat.mul_add_div (by omega),Nat.div_eq_of_lt q,az]
  rw[bI o,a,bI (λe=>c e.symm)]
theorem nJ.ac6(h:nJ a w b c z d x (.slice (some ⟨K,0,none⟩) u.regs.length L) u)(k:Nat)(r)(i:u.regs[k]?=some r):fK a a w (w.setCell ⟨K,k*3+2,none⟩ (.int .i64 ((r.cells+1:Nat):Int))) d x (.slice (some ⟨K,0,none⟩) u.regs.length L) d x (.slice (some ⟨K,0,none⟩) u.regs.length L)/\nJ a (w.setCell ⟨K,k*3+2,none⟩ (.int .i64 ((r.cells+1:Nat):Int))) b c z d x (.slice (some ⟨K,0,none⟩) u.regs.length L) {u with regs:=u.regs.set k {r with cells:=r.cells+1} }:=by
 have l:K≠a:=λe=>h.ry (by rw[e];rfl);have j:∀f,f≠K->(w.setCell ⟨K,k*3+2,none⟩ (.int .i64 ((r.cells+1:Nat):Int))).heap[f]?=w.heap[f]?:=λf i=>lu i;have h2:=(h.rg.stored (k*3+2) (.int .i64 ((r.cells+1:Nat):Int))).1;rw[Ss F3 3 (λ_=>rfl) u.regs k 2 r {r with cells:=r.cells+1} _ i (by omega) rfl]at h2;refine⟨⟨rfl,rfl,rfl,by simp only[World.setCell,dB];omega,λf _ _ _ _ _ n=>j f (λe=>n (by rw[e];rfl)),λ_ h=>aD h,λ_ h=>aD h,λ_ h=>aD h⟩,?_⟩;exact⟨by rw[j a (λe=>l e.symm)];exact h.y,bO h.nm (λf i=>j f (λe=>h.nr f i (by rw[e];rfl))),bO h.cl (λf i=>j f (λe=>h.cr f i (by rw[e];rfl))),by simp;exact h2,h.ny,h.cy,h.ry,h.nc,h.nr,h.cr⟩
theorem I2:(prog.info? 219).map (λi=>(i.zero,i.size,i.bytes))=some (some (.agg #[.bool false,.int .i64 0,.bool false,.int .i64 0,.int .i64 0,.int .i64 0]),6,48):=by kernel_rfl
theorem Li:prog.underlying 166=some (.slice 219):=by kernel_rfl
theorem Zc(c):∀u∈PF c,u.oneCell'=true:=by intro u a;simp[PF]at a;rcases a with rfl|rfl|rfl|rfl|rfl|rfl<;>rfl
theorem nJ.ac7{s}(h:nJ a w b c z d x v u)(r)(A:bg w s)(B:s.grownBy T x.ownBlock)(q:T.ownsRow 0 219 6 (.slice (some ⟨K,0,none⟩) (u.cells.length+1) L) (u.cells.length+1) (u.cells.flatMap PF++PF r))(t:x.ownBlock=some K\/s.heap.size<=K):fK a a w (T.setCell ⟨a,6,none⟩ (.slice (some ⟨K,0,none⟩) (u.cells.length+1) L)) d x v d (.slice (some ⟨K,0,none⟩) (u.cells.length+1) L) v/\nJ a (T.setCell ⟨a,6,none⟩ (.slice (some ⟨K,0,none⟩) (u.cells.length+1) L)) b c z d (.slice (some ⟨K,0,none⟩) (u.cells.length+1) L) v {u with cells:=u.cells++[r]}:=by
 obtain⟨p,r⟩:=push 6 h.slt.2.2.2 h.cy A B q t;obtain⟨e,f,_⟩:=p.keep h.nm h.ny h.nc;obtain⟨n,_,o⟩:=p.keep h.rg h.ry λK i j=>h.cr K j i;exact⟨⟨p.os,p.tape,p.output,p.size,λk i j _ _ l _=>p.kp k i j l,λ_ h=>aD h,p.own,λ_ h=>aD h⟩,p.blk h.y,e,by simpa using r,n,h.ny,p.ne,h.ry,f,h.nr,o⟩
theorem I3(l)(k:Int):∀i,rJ l k i<=i
 |0=>bS
 |i+1=>by
  simp[rJ];split
  ·exact bS
  ·exact iq (I3 l k i)
theorem CF{v:MV}(h:w.heap[a]?=some (.cells #[.bool v.c,.int .i64 v.n] 171)):w.cell? ⟨a,0,none⟩=some (.bool v.c)/\w.cell? ⟨a,1,none⟩=some (.int .i64 v.n):=⟨by rw[aI h];rfl,by rw[aI h];rfl⟩
structure Beside(mb q:Nat)(w:World)(nv cv rv:Value)(o:Obj): Prop where
 b:w.heap[q]?=some o
 ne:q≠mb
 n:nv.ownBlock≠some q
 c:cv.ownBlock≠some q
 r:rv.ownBlock≠some q
theorem Beside.keep{g}(h:Beside a z w b g d N)(f:fK a a w y b g d x v P):Beside a z y x v P N:=
 have i:=aG h.b
 ⟨by rw[f.blk z i h.ne h.ne h.n h.c h.r];exact h.b,h.ne,λe=>by
  rcases f.s z e with e|e
  ·exact h.n e
  ·omega,λe=>by
  rcases f.n z e with e|e
  ·exact h.c e
  ·omega,λe=>by
  rcases f.o z e with e|e
  ·exact h.r e
  ·omega⟩
theorem Beside.new(h:nJ a w b c z d x v u)(f:y.heap[K]?=some N)(k:w.heap.size<=K):Beside a K y d x v N:=by
 obtain⟨g,i,j,l⟩:=h.slt;exact⟨f,by omega,λe=>by have:=g _ e;omega,λe=>by have:=i _ e;omega,λe=>by have:=j _ e;omega⟩
theorem nJ.beside(h:nJ a w b c K d x v u)(h1:z≠a)(h2:d.ownBlock≠some z)(h3:x.ownBlock≠some z)(l:v.ownBlock≠some z)(i:Nat)(f):nJ a (w.setCell ⟨z,i,none⟩ f) b c K d x v u:=by
 have j:∀k,k≠z->(w.setCell ⟨z,i,none⟩ f).heap[k]?=w.heap[k]?:=λk g=>lu g;exact⟨by rw[j a (λe=>h1 e.symm)];exact h.y,bO h.nm (λk g=>j k (λe=>h2 (by rw[g,e]))),bO h.cl (λk g=>j k (λe=>h3 (by rw[g,e]))),bO h.rg (λk g=>j k (λe=>l (by rw[g,e]))),h.ny,h.cy,h.ry,h.nc,h.nr,h.cr⟩
theorem I4(f:Nat)(w)(tn Sn)(s:Nat)(O K rv)(m)(k:Int)(a b)(h1:1<=m.regs.length)(hf:s<=20000)(hb:ui s m)(h:nJ f w tn Sn s O K rv m):Calls prog 184 #[ptr f,.int .i64 k,rC a,rC b] w λe w'=>e=.returned (rC (m.ep k a b).1)/\∃cv',fK f f w w' O K rv O cv' rv/\nJ f w' tn Sn s O cv' rv (m.ep k a b).2:=by
 obtain⟨i0,hi,hz0,hz1,hz2⟩:=cI I2;refine fT hi hz0 hz1 hz2 λHI y8 za ze=>?_;clear hi hz0 hz1 hz2;have hhl:m.home k<m.regs.length:=by have:=I3 m.regs k (m.regs.length-1);unfold MM.home;omega
 obtain⟨r,hr⟩:∃r,m.regs[m.home k]?=some r:=⟨_,aa hhl⟩;have ef:m.ep k a b=(⟨true,m.cells.length⟩,{m with regs:=m.regs.set (m.home k) {r with cells:=r.cells+1},cells:=m.cells++[⟨a,b,m.home k,r.lA⟩],live:=m.live+1,most:=if m.most<m.live+1 then m.live+1 else m.most}):=by unfold MM.ep;rw[hr]
 rw[ef];obtain⟨mo,T⟩:∃mo,mo=if m.most<m.live+1 then m.live+1 else m.most:=⟨_,rfl⟩;rw[<-T];have HMO:Hid _:=T;clear T;dsimp only;have q1:=hb.live;have q2:=hb.sum;have q3:=hb.cells;have q4:=hb.steps;have q5:=hb.most;have hrl:=hb.regs;have q6:r.cells<=qi m.regs:=by
  have:=yf m.regs _ r ⟨0,0,0⟩ hr;simp only at this;omega
 have hlv:0<=m.live/\m.live<=20000:=by omega
 have hmo:0<=m.most/\m.most<=20000:=by omega
 have hrc:r.cells<=20000:=by omega
 have GR:m.cells.length<=20000:=by omega
 have hho:=λW (hW:bg w W)=>Lg f W _ _ _ _ _ _ m k h1 hrl (h.below hW);obtain⟨H,hH⟩:∃H,m.home k=H:=⟨_,rfl⟩;rw[hH]at hho hhl hr⊢;obtain⟨g,D,rfl⟩:=gN h.rg (by omega);obtain⟨A,hA⟩:∃A:Obj,A=.cells #[.bool a.c,.int .i64 a.n] 171:=⟨_,rfl⟩;obtain⟨B,hB⟩:∃B:Obj,B=.cells #[.bool b.c,.int .i64 b.n] 171:=⟨_,rfl⟩;obtain⟨R,hR⟩:∃R:Obj,R=.cells #[.bool false,.int .i64 0] 171:=⟨_,rfl⟩;obtain⟨W1,hE⟩:=ez (((w.alloc A).alloc B).alloc R);have hW1:bg w W1:=by rw[hE];exact bV (bV (bV fp _) _) _
 have hbA:W1.heap[w.heap.size]?=some A:=by rw[hE];exact cR _ (cR _ (bD w A))
 have hbB:W1.heap[w.heap.size+1]?=some B:=by rw[hE];exact cR _ (by have:=bD (w.alloc A) B;simpa using this)
 have hbR:W1.heap[w.heap.size+1+1]?=some R:=by rw[hE];have:=bD ((w.alloc A).alloc B) R;simpa using this
 have P:=Beside.new h hbA bS;have Q:=Beside.new h hbB (by omega);have U:=Beside.new h hbR (by omega);have i:=h.below hW1;have PJ:fK f f w W1 O K (.slice (some ⟨g,0,none⟩) m.regs.length D) O K (.slice (some ⟨g,0,none⟩) m.regs.length D):=fK.below f f _ _ _ hW1;have t:=i.ac6 H r hr;have aaR:=P.keep t.1;have aaS:=Q.keep t.1;have aaT:=U.keep t.1;have E:=PJ.trans t.1;refine Ms hho E t.2 aaR aaS aaT hW1 λHHO F G HSA Zd V HW1=>?_;obtain⟨_,_,_,_,_,y7,_⟩:=fQ i.y;have Xq:=aG i.y;have hg:=(i.rg.lt g rfl).2;have hgp:g≠f:=λe=>i.ry (by rw[e];rfl);have fz:=i.rg.frozenAt (H*3+2);obtain⟨r0,r1,r2⟩:=tH i.rg H r hr;clear h t P Q U aaR aaS aaT PJ E i hbA hbB hbR hW1 hho ef hr hb q1 q2 q3 q4 q5 q6 hH;unfold ptr at HHO;unfold ptr rC;generalize hn:m.regs.length=n at*;go_in;subst hA;subst hB;subst hR;go_wp2_with fail;rw[<-hE];refine ay (HHO _ HW1) ?_;rintro _ w'' ⟨rfl,hw⟩;have hw':=hw.symm;subst hw';clear hE hw;go_upto_region 6 with fail;obtain⟨S,I⟩:=ez (W1.setCell ⟨g,H*3+2,none⟩ (.int .i64 ((r.cells:Int)+1)));rw[<-I];have o:nJ f S tn Sn s O K (.slice (some ⟨g,0,none⟩) n D) {m with regs:=m.regs.set H {r with cells:=r.cells+1} }:=by rw[I];exact G
 have E:fK f f w S O K (.slice (some ⟨g,0,none⟩) n D) O K (.slice (some ⟨g,0,none⟩) n D):=by rw[I];exact F
 have P:Beside f w.heap.size S O K (.slice (some ⟨g,0,none⟩) n D) (.cells #[.bool a.c,.int .i64 a.n] 171):=by rw[I];exact HSA
 have Q:Beside f (w.heap.size+1) S O K (.slice (some ⟨g,0,none⟩) n D) (.cells #[.bool b.c,.int .i64 b.n] 171):=by rw[I];exact Zd
 have U:Beside f (w.heap.size+1+1) S O K (.slice (some ⟨g,0,none⟩) n D) (.cells #[.bool false,.int .i64 0] 171):=by rw[I];exact V
 clear I G F HSA Zd V HW1 HHO y7 r0 r1 r2 fz Xq hg;have hqw:w.heap.size<=w.heap.size+1+1:=by omega
 generalize w.heap.size+1+1=q at*;obtain⟨a0,a1⟩:=CF P.b;obtain⟨b0,b1⟩:=CF Q.b;have hla:=aG P.b;have hlb:=aG Q.b;obtain⟨_,_,_,_,y6,_,_,_,_⟩:=fQ o.y;have Xq:=aG o.y;obtain⟨C,hC⟩:∃C:Obj,C=.cells #[.bool a.c,.int .i64 a.n,.bool b.c,.int .i64 b.n,.int .i64 H,.int .i64 r.lA] 219:=⟨_,rfl⟩;have hW:=sD S C;have HW:Hid _:=hW;have tY:Hid ((S.alloc C).drew.ownsRow 0 219 6 K m.cells.length (m.cells.flatMap PF)):=bE o.cl hW;have Pk:Hid (∀(j:Nat)(u:Value),(PF ⟨a,b,H,r.lA⟩)[j]?=some u->(S.alloc C).drew.cell? ((⟨S.heap.size,0,none⟩:Addr).add j)=some u):=by
  intro j u hj;have hq:=dQ S (PF ⟨a,b,H,r.lA⟩) 219 j;rw[<-hj,<-hq,hC];rfl
 have HYW:Hid ((S.alloc C).drew.heap[f]?=some (.cells (vO tn Sn s O K (.slice (some ⟨g,0,none⟩) n D) {m with regs:=m.regs.set H {r with cells:=r.cells+1} }) 169 (0,0))):=by
  show (S.alloc C).drew.heap[f]?=_;rw[hW.block f Xq];exact o.y
 refine fT o.cy o E U λHCY G F V=>?_;clear o E P Q U hW;subst hC;go_region_law (refine uG rfl (.tmp 45) (.tmp 51) 166 rfl 219 i0 _ 6 48 Li HI y8 za ze rfl (by decide) K m.cells.length (m.cells.flatMap PF) (by simp[Act.eval]) tY ⟨S.heap.size,0,none⟩ 1 1 (PF ⟨a,b,H,r.lA⟩) (by simp[Act.eval]) rfl Pk (Zc _) (by decide) (by unfold maxLen;omega) (by omega) ?_;intro g' cap' w' hown J Mz;have X:=kW J HYW HCY;have c6:cg w' f 6 K:=(aI X 6).trans rfl;have f6:=aK X 6)
 all_goals
  have L:=nJ.ac7 G ⟨a,b,H,r.lA⟩ HW J hown Mz;have Y:=F.trans L.1;have Z:=V.keep L.1;have x:=L.2;clear L hown J Mz X c6 f6 G F V HW tY Pk HYW HCY HI y8 za ze a0 a1 b0 b1 y6;generalize w'.setCell ⟨f,6,none⟩ (.slice (some ⟨g',0,none⟩) (m.cells.length+1) cap')=W3 at Y Z x⊢;have y9:=(fQ x.y).2.2.2.2.2.2.2.1;have f9:=aK x.y 9;have aaU:=aG x.y;have z:=x.PG {m with regs:=m.regs.set H {r with cells:=r.cells+1},cells:=m.cells++[⟨a,b,H,r.lA⟩],live:=m.live+1} 9 (.int .i64 (m.live+1)) rfl rfl rfl rfl;refine fw (Y.trans z.1) (Z.keep z.1) z.2 λSt Ze M=>?_;have aaV:=(fQ z.2.y).2.2.2.2.2.2.2.2;have hy9:=(fQ z.2.y).2.2.2.2.2.2.2.1;clear Y Z x z;go_upto_region 8 with fail;obtain⟨W4,hE4⟩:=ez (W3.setCell ⟨f,9,none⟩ (.int .i64 (m.live+1)));rw[<-hE4]at St Ze M aaV hy9⊢;clear hE4 y9 f9 aaU;have ac8:=aG M.y;go_quiet (fail);rename_i nq;obtain⟨W5,QJ⟩:=ez (W4.drewN nq);have N:bg W4 W5:=by rw[QJ];exact gD fp
  rw[<-QJ];have p:=M.below N;have Su:=St.trans (fK.below f f _ _ _ N);have l:=Ze.keep (fK.below f f _ _ _ N);clear QJ N M St Ze hy9 aaV ac8;have z9:=(fQ p.y).2.2.2.2.2.2.2.1;have z10:=(fQ p.y).2.2.2.2.2.2.2.2;have z6:=(fQ p.y).2.2.2.2.1;have g10:=aK p.y 10;have aeQ:=aG p.y;have x0:cg W5 q 0 (.bool false):=dR l.b rfl;have x1:cg W5 q 1 (.int .i64 0):=dR l.b rfl;have g0:=aK l.b 0;have g1:=aK l.b 1;have VX:=aG l.b;have hqm:=l.ne;have hmq:f≠q:=λe=>hqm e.symm;refine fw p Su l λVY aaW yz=>?_;clear p Su l;by_cases hq:m.most<m.live+1
  ·have Zf:Hid (mo=m.live+1):=by have:=HMO;rw[ah hq]at this;exact this
   clear HMO;go_wp2;have hs6:=VY.PG {m with regs:=m.regs.set H {r with cells:=r.cells+1},cells:=m.cells++[⟨a,b,H,r.lA⟩],live:=m.live+1,most:=m.live+1} 10 (.int .i64 (m.live+1)) rfl rfl rfl rfl;have d:=yz.keep hs6.1;have Xz:=(hs6.2.beside d.ne d.n d.c d.r 0 (.bool true)).beside d.ne d.n d.c d.r 1 (.int .i64 m.cells.length);have hf7:=((aaW.trans hs6.1).upto (jN (jN fp ⟨q,0,none⟩ hqw (.bool true)) ⟨q,1,none⟩ hqw (.int .i64 m.cells.length)));refine au (v:=.agg #[.bool true,.int .i64 m.cells.length]) (by simp[results,results184,go_sem,x0,x1]) rfl ⟨rfl,_,hf7,?_⟩;rw[Zf.out];exact Xz
  ·have Zf:Hid (mo=m.most):=by have:=HMO;rw[ag hq]at this;exact this
   clear HMO;go_wp2;have d:=yz;have Xz:=(VY.beside d.ne d.n d.c d.r 0 (.bool true)).beside d.ne d.n d.c d.r 1 (.int .i64 m.cells.length);have hf7:=(aaW.upto (jN (jN fp ⟨q,0,none⟩ hqw (.bool true)) ⟨q,1,none⟩ hqw (.int .i64 m.cells.length)));refine au (v:=.agg #[.bool true,.int .i64 m.cells.length]) (by simp[results,results184,go_sem,x0,x1]) rfl ⟨rfl,_,hf7,?_⟩;rw[Zf.out];exact Xz
