import Derived.Test.YtpicaknklgccoabGreatDoorV25
set_option maxHeartbeats 8000000
set_option maxRecDepth 100000
namespace Go.Proofs.YtpicaknklgccoabGreatDoor
open Go.RowKit
theorem yT {w:World} {b:Nat} {v:MV} (h:w.heap[b]?=some (.cells #[.bool v.c,.int .i64 v.n] 122)):w.cell? ⟨b,0,none⟩=some (.bool v.c)/\w.cell? ⟨b,1,none⟩=some (.int .i64 v.n):=⟨by rw[aa h];rfl,by rw[aa h];rfl⟩
structure Beside (mb q:Nat) (w:World) (nv cv rv:Value) (o:Obj):Prop where
 b:w.heap[q]?=some o
 ne:q≠mb
 n:nv.ownBlock≠some q
 c:cv.ownBlock≠some q
 r:rv.ownBlock≠some q
theorem Beside.keep {mb b:Nat} {w w':World} {nv cv rv bJ yS wq:Value} {o:Obj} (h:Beside mb b w nv cv rv o) (hf:bL mb mb w w' nv cv rv bJ yS wq):Beside mb b w' bJ yS wq o :=
 have hk:=af h.b
 ⟨by rw[hf.blk b hk h.ne h.ne h.n h.c h.r];exact h.b,h.ne,λe=>by
  rcases hf.s b e with e | e
  ·exact h.n e
  ·omega,λe=>by
  rcases hf.n b e with e | e
  ·exact h.c e
  ·omega,λe=>by
  rcases hf.o b e with e | e
  ·exact h.r e
  ·omega⟩
theorem Beside.new {mb:Nat} {w W:World} {tn aS:Value} {fuel:Nat} {nv cv rv:Value} {m:MM} (h:jc mb w tn aS fuel nv cv rv m) {b:Nat} {o:Obj} (hb:W.heap[b]?=some o) (hw:w.heap.size<=b):Beside mb b W nv cv rv o:=by
 obtain⟨l1,l2,l3,l4⟩:=h.slt;exact⟨hb,by omega,λe=>by have:=l1 _ e;omega,λe=>by have:=l2 _ e;omega,λe=>by have:=l3 _ e;omega⟩
theorem jc.beside {mb q:Nat} {w:World} {tn aS:Value} {fuel:Nat} {nv cv rv:Value} {m:MM} (h:jc mb w tn aS fuel nv cv rv m) (h1:q≠mb) (h2:nv.ownBlock≠some q) (h3:cv.ownBlock≠some q) (h4:rv.ownBlock≠some q) (i:Nat) (u:Value):jc mb (w.setCell ⟨q,i,none⟩ u) tn aS fuel nv cv rv m:=by
 have kp:∀ k,k≠q->(w.setCell ⟨q,i,none⟩ u).heap[k]?=w.heap[k]?:=λk hk=>aq _ _ (by simpa using hk)
 exact⟨by rw[kp mb (λe=>h1 e.symm)];exact h.y,ay h.nm (λk hk=>kp k (λe=>h2 (by rw[hk,e]))),ay h.cl (λk hk=>kp k (λe=>h3 (by rw[hk,e]))),ay h.rg (λk hk=>kp k (λe=>h4 (by rw[hk,e]))),h.ny,h.cy,h.ry,h.nc,h.nr,h.cr⟩
theorem EL (mb:Nat) (w:World) (tn aS:Value) (fuel:Nat) (nv cv rv:Value) (m:MM) (k:Int) (a b:MV) (h1:1<=m.regs.length) (hf:fuel<=20000) (hb:oO fuel m) (h:jc mb w tn aS fuel nv cv rv m) :
  Calls Tryz.prog 126 #[ptr mb,.int .i64 k,ml a,ml b] w λe w'=>e=.returned (ml (m.bb k a b).1)/\∃ yS,bL mb mb w w' nv cv rv nv yS rv/\jc mb w' tn aS fuel nv yS rv (m.bb k a b).2:=by
 obtain⟨i0,hi,hz0,hz1,hz2⟩:=info_parts Tryz.Lz;have HI:Hid _:=hi;have rR:Hid _:=hz0;have rS:Hid _:=hz1;have rT:Hid _:=hz2;clear hi hz0 hz1 hz2
 have MJ:m.home k<m.regs.length:=by have:=EK m.regs k (m.regs.length-1);unfold MM.home;omega
 obtain⟨r,hr⟩:∃ r,m.regs[m.home k]?=some r:=⟨_,List.getElem?_eq_getElem MJ⟩
 have ef:m.bb k a b=(⟨true,m.cells.length⟩,{ m with regs:=m.regs.set (m.home k) { r with cells:=r.cells+1 },cells:=m.cells++[⟨a,b,m.home k,r.gO⟩],live:=m.live+1,most:=if m.most<m.live+1 then m.live+1 else m.most }):=by unfold MM.bb;rw[hr]
 rw[ef]
 obtain⟨mo,VY⟩:∃ mo,mo=if m.most<m.live+1 then m.live+1 else m.most:=⟨_,rfl⟩
 rw[<- VY];have HMO:Hid _:=VY;clear VY
 dsimp only
 have q1:=hb.live;have q2:=hb.sum;have q3:=hb.cells;have q4:=hb.steps;have q5:=hb.most;have hrl:=hb.regs
 have q6:r.cells<=kO m.regs:=by
  have:=qg m.regs _ r ⟨0,0,0⟩ hr;simp only at this;omega
 have hlv:0<=m.live/\m.live<=20000:=by omega
 have hmo:0<=m.most/\m.most<=20000:=by omega
 have hrc:r.cells<=20000:=by omega
 have Gh:m.cells.length<=20000:=by omega
 have hho:=λW (hW:Below w.heap.size w W)=>Ik mb W _ _ _ _ _ _ m k h1 hrl (h.below hW)
 obtain⟨H,hH⟩:∃ H,m.home k=H:=⟨_,rfl⟩;rw[hH] at hho MJ hr ⊢;obtain⟨g,cap,rfl⟩:=j5 h.rg (by omega);obtain⟨A,hA⟩:∃ A:Obj,A=.cells #[.bool a.c,.int .i64 a.n] 122:=⟨_,rfl⟩;obtain⟨B,hB⟩:∃ B:Obj,B=.cells #[.bool b.c,.int .i64 b.n] 122:=⟨_,rfl⟩;obtain⟨R,hR⟩:∃ R:Obj,R=.cells #[.bool false,.int .i64 0] 122:=⟨_,rfl⟩;obtain⟨W1,hE⟩:∃ W1,W1=((w.alloc A).alloc B).alloc R:=⟨_,rfl⟩
 have hW1:Below w.heap.size w W1:=by rw[hE];exact aD (aD (aD (Below.refl _ _) _) _) _
 have TB:W1.heap[w.heap.size]?=some A:=by rw[hE];exact aR _ (aR _ (aj w A))
 have Mw:W1.heap[w.heap.size+1]?=some B:=by rw[hE];exact aR _ (by have:=aj (w.alloc A) B;simpa using this)
 have hbR:W1.heap[w.heap.size+1+1]?=some R:=by rw[hE];have:=aj ((w.alloc A).alloc B) R;simpa using this
 have RI:=Beside.new h TB (Nat.le_refl _);have XS:=Beside.new h Mw (by omega);have lX:=Beside.new h hbR (by omega);have oC:=h.below hW1;have sY:bL mb mb w W1 nv cv (.slice (some ⟨g,0,none⟩) m.regs.length cap) nv cv (.slice (some ⟨g,0,none⟩) m.regs.length cap):=bL.below mb mb _ _ _ hW1;have hset:=oC.abx H r hr;have Zv:=RI.keep hset.1;have Zw:=XS.keep hset.1;have gF:=lX.keep hset.1;have dD:=sY.trans hset.1;have HHO:Hid _:=hho;have yU:Hid _:=dD;have yV:Hid _:=hset.2;have TW:Hid _:=Zv;have VZ:Hid _:=Zw;have kI:Hid _:=gF;have JR:Hid _:=hW1;obtain⟨_,_,_,_,_,y7,_⟩:=bK oC.y;have oL:=af oC.y;have hg:g<W1.heap.size:=(oC.rg.lt g rfl).2
 have pM:g≠mb:=λe=>oC.ry (by rw[e];rfl)
 have fz:=oC.rg.frozenAt (H*3+2);obtain⟨r0,r1,r2⟩:=oB oC.rg H r hr;clear h hset RI XS lX Zv Zw gF sY dD oC TB Mw hbR hW1 hho ef hr hb q1 q2 q3 q4 q5 q6 hH;unfold ptr at HHO;unfold ptr ml;generalize hn:m.regs.length=n at *
 go_enter Tryz.func126,Tryz.ntmps126
 subst hA;subst hB;subst hR
 go_wp2_with fail
 rw[<- hE];refine Calls.mono (HHO.out _ JR.out) ?_;rintro _ w'' ⟨rfl,hw⟩;have hw':=hw.symm;subst hw';clear hE hw
 go_upto_region 6 with fail
 obtain⟨W2,uq⟩:∃ W2,W2=W1.setCell ⟨g,H*3+2,none⟩ (.int .i64 ((r.cells:Int)+1)):=⟨_,rfl⟩;rw[<- uq]
 have bC:jc mb W2 tn aS fuel nv cv (.slice (some ⟨g,0,none⟩) n cap) { m with regs:=m.regs.set H { r with cells:=r.cells+1 } }:=by rw[uq];exact yV.out
 have dD:bL mb mb w W2 nv cv (.slice (some ⟨g,0,none⟩) n cap) nv cv (.slice (some ⟨g,0,none⟩) n cap):=by rw[uq];exact yU.out
 have RI:Beside mb w.heap.size W2 nv cv (.slice (some ⟨g,0,none⟩) n cap) (.cells #[.bool a.c,.int .i64 a.n] 122):=by rw[uq];exact TW.out
 have XS:Beside mb (w.heap.size+1) W2 nv cv (.slice (some ⟨g,0,none⟩) n cap) (.cells #[.bool b.c,.int .i64 b.n] 122):=by rw[uq];exact VZ.out
 have lX:Beside mb (w.heap.size+1+1) W2 nv cv (.slice (some ⟨g,0,none⟩) n cap) (.cells #[.bool false,.int .i64 0] 122):=by rw[uq];exact kI.out
 clear uq yV yU TW VZ kI JR HHO y7 r0 r1 r2 fz oL hg
 have Zt:w.heap.size<=w.heap.size+1+1:=by omega
 generalize w.heap.size+1+1=q at *;obtain⟨a0,a1⟩:=yT RI.b;obtain⟨b0,b1⟩:=yT XS.b;have hla:=af RI.b;have hlb:=af XS.b;obtain⟨_,_,_,_,y6,_,_,_,_⟩:=bK bC.y;have oL:=af bC.y;obtain⟨C,hC⟩:∃ C:Obj,C=.cells #[.bool a.c,.int .i64 a.n,.bool b.c,.int .i64 b.n,.int .i64 H,.int .i64 r.gO] 154:=⟨_,rfl⟩;have hW:Below W2.heap.size W2 (W2.alloc C).drew:=um W2 C;have HW:Hid _:=hW;have eK:Hid ((W2.alloc C).drew.ownsRow 0 154 6 cv m.cells.length (m.cells.flatMap Lw)):=aB bC.cl hW
 have Ay:Hid (∀ (j:Nat) (u:Value),(Lw ⟨a,b,H,r.gO⟩)[j]?=some u->(W2.alloc C).drew.cell? ((⟨W2.heap.size,0,none⟩:Addr).add j)=some u):=by
  intro j u hj;have hq:=bV W2 (Lw ⟨a,b,H,r.gO⟩) 154 j;rw[<- hj,<- hq,hC];rfl
 have Ge:Hid ((W2.alloc C).drew.heap[mb]?=some (.cells (mM tn aS fuel nv cv (.slice (some ⟨g,0,none⟩) n cap) { m with regs:=m.regs.set H { r with cells:=r.cells+1 } }) 120 (0,0))):=by
  show (W2.alloc C).drew.heap[mb]?=_
  rw[hW.block mb oL];exact bC.y
 have HCY:Hid _:=bC.cy;have yV:Hid _:=bC;have yU:Hid _:=dD;have kI:Hid _:=lX;clear bC dD RI XS lX hW;subst hC
 go_region_law (refine tK rfl (.tmp 45) (.tmp 51) 117 rfl 154 i0 _ 6 48 Tryz.Oq HI.out rR.out rS.out rT.out rfl (by decide) cv m.cells.length (m.cells.flatMap Lw) (by simp[Act.eval]) eK.out ⟨W2.heap.size,0,none⟩ 1 1 (Lw ⟨a,b,H,r.gO⟩) (by simp[Act.eval]) rfl Ay.out (VX _) (by decide) (by unfold maxLen;omega) (by omega) ?_;intro g' cap' w' hown hgrow jC;have qp:=cY hgrow Ge.out HCY.out;have c6:w'.cell? ⟨mb,6,none⟩=some cv:=(by rw[aa qp];rfl);have f6:=ag qp 6)
 all_goals
  have hadd:=jc.aby yV.out ⟨a,b,H,r.gO⟩ HW.out hgrow hown jC;have cj:=yU.out.trans hadd.1;have LA:=kI.out.keep hadd.1;have eO:=hadd.2;clear hadd hown hgrow jC qp c6 f6 yV yU kI HW eK Ay Ge HCY HI rR rS rT a0 a1 b0 b1 y6;generalize w'.setCell ⟨mb,6,none⟩ (.slice (some ⟨g',0,none⟩) (m.cells.length+1) cap')=W3 at cj LA eO ⊢;have y9:W3.cell? ⟨mb,9,none⟩=some (.int .i64 m.live):=(bK eO.y).2.2.2.2.2.2.2.1;have f9:W3.frozen? ⟨mb,9,none⟩=false:=ag eO.y 9;have RJ:=af eO.y;have cx:=eO.EE { m with regs:=m.regs.set H { r with cells:=r.cells+1 },cells:=m.cells++[⟨a,b,H,r.gO⟩],live:=m.live+1 } 9 (.int .i64 (m.live+1)) rfl rfl rfl rfl;have Ot:Hid _:=cj.trans cx.1;have LB:Hid _:=LA.keep cx.1;have LC:Hid _:=cx.2;have Zx:(W3.setCell ⟨mb,9,none⟩ (.int .i64 (m.live+1))).cell? ⟨mb,10,none⟩=some (.int .i64 m.most):=(bK cx.2.y).2.2.2.2.2.2.2.2;have hy9:(W3.setCell ⟨mb,9,none⟩ (.int .i64 (m.live+1))).cell? ⟨mb,9,none⟩=some (.int .i64 (m.live+1)):=(bK cx.2.y).2.2.2.2.2.2.2.1;clear cj LA eO cx
  go_upto_region 8 with fail
  obtain⟨W4,hE4⟩:∃ W4,W4=W3.setCell ⟨mb,9,none⟩ (.int .i64 (m.live+1)):=⟨_,rfl⟩;rw[<- hE4] at Ot LB LC Zx hy9 ⊢;clear hE4 y9 f9 RJ;have abz:=af LC.out.y
  go_quiet (fail)
  rename_i nq
  obtain⟨W5,wu⟩:∃ W5,W5=W4.drewN nq:=⟨_,rfl⟩
  have RL:Below W4.heap.size W4 W5:=by rw[wu];exact jt (Below.refl _ _)
  rw[<- wu];have oA:=LC.out.below RL;have qo:=Ot.out.trans (bL.below mb mb _ _ _ RL);have aI:=LB.out.keep (bL.below mb mb _ _ _ RL);clear wu RL LC Ot LB hy9 Zx abz;have z9:W5.cell? ⟨mb,9,none⟩=some (.int .i64 (m.live+1)):=(bK oA.y).2.2.2.2.2.2.2.1;have z10:W5.cell? ⟨mb,10,none⟩=some (.int .i64 m.most):=(bK oA.y).2.2.2.2.2.2.2.2;have z6:W5.cell? ⟨mb,6,none⟩=some (.slice (some ⟨g',0,none⟩) (m.cells.length+1) cap'):=(bK oA.y).2.2.2.2.1;have g10:W5.frozen? ⟨mb,10,none⟩=false:=ag oA.y 10;have acU:=af oA.y
  have x0:W5.cell? ⟨q,0,none⟩=some (.bool false):=by rw[aa aI.b];rfl
  have x1:W5.cell? ⟨q,1,none⟩=some (.int .i64 0):=by rw[aa aI.b];rfl
  have g0:W5.frozen? ⟨q,0,none⟩=false:=ag aI.b 0;have g1:W5.frozen? ⟨q,1,none⟩=false:=ag aI.b 1;have CL:=af aI.b;have hqm:q≠mb:=aI.ne
  have hmq:mb≠q:=λe=>hqm e.symm
  have EM:Hid _:=oA;have AP:Hid _:=qo;have dM:Hid _:=aI;clear oA qo aI
  by_cases hq:m.most<m.live+1
  ·have V0:Hid (mo=m.live+1):=by have:=HMO.out;rw[if_pos hq] at this;exact this
   clear HMO
   go_wp2
   have hs6:=EM.out.EE { m with regs:=m.regs.set H { r with cells:=r.cells+1 },cells:=m.cells++[⟨a,b,H,r.gO⟩],live:=m.live+1,most:=m.live+1 } 10 (.int .i64 (m.live+1)) rfl rfl rfl rfl;have aY:=dM.out.keep hs6.1;have ku:=(hs6.2.beside aY.ne aY.n aY.c aY.r 0 (.bool true)).beside aY.ne aY.n aY.c aY.r 1 (.int .i64 m.cells.length);have ju:=((AP.out.trans hs6.1).upto (aw (aw (Below.refl _ _) ⟨q,0,none⟩ Zt (.bool true)) ⟨q,1,none⟩ Zt (.int .i64 m.cells.length)));refine bodyPost_ret (v:=.agg #[.bool true,.int .i64 m.cells.length]) (by simp[results,Tryz.results126,go_sem,x0,x1]) rfl ⟨rfl,_,ju,?_⟩;rw[V0.out];exact ku
  ·have V0:Hid (mo=m.most):=by have:=HMO.out;rw[if_neg hq] at this;exact this
   clear HMO
   go_wp2
   have aY:=dM.out;have ku:=(EM.out.beside aY.ne aY.n aY.c aY.r 0 (.bool true)).beside aY.ne aY.n aY.c aY.r 1 (.int .i64 m.cells.length);have ju:=(AP.out.upto (aw (aw (Below.refl _ _) ⟨q,0,none⟩ Zt (.bool true)) ⟨q,1,none⟩ Zt (.int .i64 m.cells.length)));refine bodyPost_ret (v:=.agg #[.bool true,.int .i64 m.cells.length]) (by simp[results,Tryz.results126,go_sem,x0,x1]) rfl ⟨rfl,_,ju,?_⟩;rw[V0.out];exact ku
structure EO (mb B:Nat) (w:World) (nv cv rv tn aS:Value) (ns:List NR) (op:List Int):Prop where
 b:B<=mb
 s:B<=w.heap.size
 n:∀ g,nv.ownBlock=some g->B<=g
 c:∀ g,cv.ownBlock=some g->B<=g
 r:∀ g,rv.ownBlock=some g->B<=g
 tree:∀ w',Below B w w'->bB w' tn aS ns op
 len:ns.length<=9000
theorem EO.TY {mb B:Nat} {w w':World} {nv cv rv bJ yS wq tn aS:Value} {ns:List NR} {op:List Int} (h:EO mb B w nv cv rv tn aS ns op) (hf:bL mb mb w w' nv cv rv bJ yS wq):Below B w w' :=
 have hb:=h.b;have hs:=h.s
 ⟨hf.os,hf.tape,hf.output,hf.size,λk hk=>hf.blk k (by omega) (by omega) (by omega) (λe=>by have:=h.n k e;omega) (λe=>by have:=h.c k e;omega) (λe=>by have:=h.r k e;omega)⟩
theorem EO.on {mb B:Nat} {w w':World} {nv cv rv bJ yS wq tn aS:Value} {ns:List NR} {op:List Int} (h:EO mb B w nv cv rv tn aS ns op) (hf:bL mb mb w w' nv cv rv bJ yS wq):EO mb B w' bJ yS wq tn aS ns op:=by
 have hs:=h.s;refine⟨h.b,Nat.le_trans h.s hf.size,λg hg=>?_,λg hg=>?_,λg hg=>?_,λw2 h2=>h.tree w2 ((h.TY hf).trans h2),h.len⟩
 ·rcases hf.s g hg with e | e
  ·exact h.n g e
  ·omega
 ·rcases hf.n g hg with e | e
  ·exact h.c g e
  ·omega
 ·rcases hf.o g hg with e | e
  ·exact h.r g e
  ·omega
structure jJ (mb B:Nat) (w:World) (tn aS:Value) (fuel:Nat) (nv cv rv:Value) (m:MM) (ns:List NR) (op:List Int) (c:Nat):Prop where
 i:jc mb w tn aS fuel nv cv rv m
 bd:oO fuel m
 env:EO mb B w nv cv rv tn aS ns op
 r1:1<=m.regs.length
 rl:m.regs.length+c<=20000
 ob:m.opened+20000*(fuel-m.steps)+c<=3000000000
 nl:m.named.length=ns.length
 fu:fuel<=20000
theorem jJ.on {mb B:Nat} {w w':World} {tn aS:Value} {fuel:Nat} {nv cv rv bJ yS wq:Value} {m m':MM} {ns:List NR} {op:List Int} {c c' a s:Nat} (h:jJ mb B w tn aS fuel nv cv rv m ns op c) (hf:bL mb mb w w' nv cv rv bJ yS wq)
  (hi:jc mb w' tn aS fuel bJ yS wq m') (hb:oO fuel m') (hg:eV a s m m') (hc:a+c'<=c):jJ mb B w' tn aS fuel bJ yS wq m' ns op c':=by
 have h1:=h.ob;have h2:=hg.op;have h3:=hg.st;have h4:=hb.steps;have h5:=h.rl;have h6:=h.r1;exact⟨hi,hb,h.env.on hf,by rw[hg.rg];exact h6,by rw[hg.rg];omega,by omega,by rw[hg.nm];exact h.nl,h.fu⟩
theorem jJ.below {mb B:Nat} {w w':World} {tn aS:Value} {fuel:Nat} {nv cv rv:Value} {m:MM} {ns:List NR} {op:List Int} {c:Nat} (h:jJ mb B w tn aS fuel nv cv rv m ns op c) (hb:Below w.heap.size w w'):jJ mb B w' tn aS fuel nv cv rv m ns op c :=
 ⟨h.i.below hb,h.bd,h.env.on (bL.below mb mb nv cv rv hb),h.r1,h.rl,h.ob,h.nl,h.fu⟩
theorem jJ.less {mb B:Nat} {w:World} {tn aS:Value} {fuel:Nat} {nv cv rv:Value} {m:MM} {ns:List NR} {op:List Int} {c c':Nat} (h:jJ mb B w tn aS fuel nv cv rv m ns op c) (hc:c'<=c):jJ mb B w tn aS fuel nv cv rv m ns op c' :=
 ⟨h.i,h.bd,h.env,h.r1,by have:=h.rl;omega,by have:=h.ob;omega,h.nl,h.fu⟩
def gG (mb:Nat) (w:World) (tn aS:Value) (fuel:Nat) (nv cv rv:Value) (x:MV × MM) (e:Ending) (w':World):Prop :=
 e=.returned (ml x.1)/\∃ bJ yS wq,bL mb mb w w' nv cv rv bJ yS wq/\jc mb w' tn aS fuel bJ yS wq x.2
def gV (mb B:Nat) (tn aS:Value) (fuel:Nat) (ns:List NR) (op:List Int) (i:Int) (c:Nat) (f:MM->MV × MM):Prop :=
 ∀ (w:World) (nv cv rv:Value) (m:MM),jJ mb B w tn aS fuel nv cv rv m ns op c->yJ fuel c m (f m)/\Calls Tryz.prog 68 #[ptr mb,.int .i64 i] w (gG mb w tn aS fuel nv cv rv (f m))
theorem ES (mb B:Nat) (tn aS:Value) (fuel:Nat) (ns:List NR) (op:List Int) (n:NR) (ca cb:Nat) (fa fb:MM->MV × MM) (nT:-1<=n.p0/\n.p0<=9000)
  (ha:gV mb B tn aS fuel ns op n.p0 ca fa) (hb:gV mb B tn aS fuel ns op n.p1 cb fb)
  (w:World) (nv cv rv:Value) (m:MM) (h:jJ mb B w tn aS fuel nv cv rv m ns op (ca+cb)) :
  Calls Tryz.prog 110 #[ptr mb,aK n] w (gG mb w tn aS fuel nv cv rv (fb ((fa m).2.name n.p0 (fa m).1))):=by
 obtain⟨N,hN⟩:∃ N:Obj,N=.cells #[.int .i64 n.form,.int .i64 n.at_,.int .i64 n.aL,.int .i64 n.num,.string (bs n.word),.int .i64 n.region,.int .i64 n.source,.int .i64 n.p0,.int .i64 n.p1,.int .i64 n.p2] 108:=⟨_,rfl⟩;obtain⟨R,hR⟩:∃ R:Obj,R=.cells #[.bool false,.int .i64 0] 122:=⟨_,rfl⟩;obtain⟨W1,hE⟩:∃ W1,W1=(w.alloc N).alloc R:=⟨_,rfl⟩
 have hW1:Below w.heap.size w W1:=by rw[hE];exact aD (aD (Below.refl _ _) _) _
 have h1:=h.below hW1;have qX:Beside mb w.heap.size W1 nv cv rv (cA n):=Beside.new h.i (by rw[hE,hN];exact aR _ (aj w _)) (Nat.le_refl _);have lX:Beside mb (w.heap.size+1) W1 nv cv rv (.cells #[.bool false,.int .i64 0] 122):=Beside.new h.i (by rw[hE,hR];have:=aj (w.alloc N) (.cells #[.bool false,.int .i64 0] 122);simpa using this) (by omega);have fD:=ha W1 nv cv rv m (h1.less (by omega));have eH:Hid (bL mb mb w W1 nv cv rv nv cv rv):=bL.below mb mb nv cv rv hW1;have HA:Hid _:=fD.2;have HK:Hid _:=fD.1;have HB:Hid _:=hb;have H1:Hid _:=h1;have kP:Hid _:=qX;have kI:Hid _:=lX;have HP:Hid _:=nT
 have gr:w.heap.size<=w.heap.size+1:=by omega
 clear fD ha hb hW1 h1 qX lX h nT;unfold ptr at HA;unfold ptr aK
 go_enter Tryz.func110,Tryz.ntmps110
 subst hN;subst hR
 go_wp2_with fail
 rw[<- hE];refine Calls.mono HA.out ?_;rintro _ w2 ⟨rfl,cO,mC,kT,hf2,qq⟩;have dY:=kP.out.keep hf2;have gF:=kI.out.keep hf2;have h2:=H1.out.on (c':=cb) hf2 qq HK.out.1 HK.out.2.2.inner (by omega);have jK:=HK.out.2.1;have cS:Hid _:=eH.out.trans hf2;clear hE hf2 qq kP kI H1 eH HA HK;generalize fa m=x at *;generalize w.heap.size+1=q at *;obtain⟨W3,jd⟩:∃ W3,W3=w2.alloc (.cells #[.bool x.1.c,.int .i64 x.1.n] 122):=⟨_,rfl⟩
 have hW3:Below w2.heap.size w2 W3:=by rw[jd];exact aD (Below.refl _ _) _
 have h3:=h2.below hW3;have hf3:bL mb mb w2 W3 cO mC kT cO mC kT:=bL.below mb mb cO mC kT hW3;have ur:=dY.keep hf3;have LA:=gF.keep hf3;have aO:=EG mb W3 tn aS fuel cO mC kT x.2 n.p0 x.1 (by have:=HP.out;omega) (by rw[h3.nl];exact h3.env.len) h3.i;have D5:Hid _:=aO;have H3:Hid _:=h3;have ee:Hid _:=cS.out.trans hf3;have qt:Hid _:=ur;have fg:Hid _:=LA;have sZ:Hid _:=jK;obtain⟨_,_,_,_,_,_,_,c7,c8,_⟩:=aC dY.b;have AL:=af dY.b;clear h3 hf3 ur LA aO cS hW3 h2 dY gF jK;unfold ptr ml at D5;unfold ml
 go_wp2_with fail
 rw[<- jd];refine Calls.mono D5.out ?_;rintro _ w4 ⟨rfl,dE,hi4⟩;have nL:=qt.out.keep dE;have s6:=fg.out.keep dE;have h4:=H3.out.on (c':=cb) dE hi4 (MM.xh H3.out.bd n.p0 x.1 sZ.out) (ow x.2 n.p0 x.1) (by omega);have hkb:=HB.out w4 cO mC kT _ h4;have wM:Hid _:=hkb.2;have kA:Hid _:=ee.out.trans dE;have LB:Hid _:=s6;obtain⟨_,_,_,_,_,_,_,d7,d8,_⟩:=aC nL.b;have Im:=af nL.b;clear jd dE hi4 h4 hkb nL s6 qt fg H3 ee D5 sZ c7 c8 AL HB HP;unfold ptr at wM
 go_wp2_with fail
 refine Calls.mono wM.out ?_;rintro _ w5 ⟨rfl,Hm,cv5,rv5,eY,pG⟩;have aI:=LB.out.keep eY;have gB:Hid _:=kA.out.trans eY;have jI:Hid _:=pG;have dM:Hid _:=aI
 have x0:w5.cell? ⟨q,0,none⟩=some (.bool false):=by rw[aa aI.b];rfl
 have x1:w5.cell? ⟨q,1,none⟩=some (.int .i64 0):=by rw[aa aI.b];rfl
 have g0:w5.frozen? ⟨q,0,none⟩=false:=ag aI.b 0;have g1:w5.frozen? ⟨q,1,none⟩=false:=ag aI.b 1;have CL:=af aI.b;clear eY pG aI LB kA wM d7 d8 Im;generalize fb (x.2.name n.p0 x.1)=y at *;unfold ml
 go_wp2
 have aY:=dM.out;have ku:=(jI.out.beside aY.ne aY.n aY.c aY.r 0 (.bool y.1.c)).beside aY.ne aY.n aY.c aY.r 1 (.int .i64 y.1.n);have ju:=(gB.out.upto (aw (aw (Below.refl _ _) ⟨q,0,none⟩ gr (.bool y.1.c)) ⟨q,1,none⟩ gr (.int .i64 y.1.n)));refine bodyPost_ret (v:=.agg #[.bool y.1.c,.int .i64 y.1.n]) (by simp[results,Tryz.results110,go_sem,x0,x1]) rfl ⟨rfl,_,_,_,ju,ku⟩
theorem CM (mb B:Nat) (tn aS:Value) (fuel:Nat) (ns:List NR) (op:List Int) (n:NR) (ca cb:Nat) (fa fb:MM->MV × MM) (ha:gV mb B tn aS fuel ns op n.p0 ca fa) (hb:gV mb B tn aS fuel ns op n.p1 cb fb)
  (w:World) (nv cv rv:Value) (m:MM) (h:jJ mb B w tn aS fuel nv cv rv m ns op (ca+cb)) :
  Calls Tryz.prog 111 #[ptr mb,aK n] w (gG mb w tn aS fuel nv cv rv ((fb (fa m).2).2.bb n.region (fa m).1 (fb (fa m).2).1)):=by
 obtain⟨N,hN⟩:∃ N:Obj,N=.cells #[.int .i64 n.form,.int .i64 n.at_,.int .i64 n.aL,.int .i64 n.num,.string (bs n.word),.int .i64 n.region,.int .i64 n.source,.int .i64 n.p0,.int .i64 n.p1,.int .i64 n.p2] 108:=⟨_,rfl⟩;obtain⟨R,hR⟩:∃ R:Obj,R=.cells #[.bool false,.int .i64 0] 122:=⟨_,rfl⟩;obtain⟨W1,hE⟩:∃ W1,W1=(w.alloc N).alloc R:=⟨_,rfl⟩
 have hW1:Below w.heap.size w W1:=by rw[hE];exact aD (aD (Below.refl _ _) _) _
 have h1:=h.below hW1;have qX:Beside mb w.heap.size W1 nv cv rv (cA n):=Beside.new h.i (by rw[hE,hN];exact aR _ (aj w _)) (Nat.le_refl _);have lX:Beside mb (w.heap.size+1) W1 nv cv rv (.cells #[.bool false,.int .i64 0] 122):=Beside.new h.i (by rw[hE,hR];have:=aj (w.alloc N) (.cells #[.bool false,.int .i64 0] 122);simpa using this) (by omega);have eH:Hid (bL mb mb w W1 nv cv rv nv cv rv):=bL.below mb mb nv cv rv hW1;have H1:Hid _:=h1;have kP:Hid _:=qX;have kI:Hid _:=lX
 have gr:w.heap.size<=w.heap.size+1:=by omega
 have fD:=ha W1 nv cv rv m (h1.less (by omega));have HA:Hid _:=fD.2;have HK:Hid _:=fD.1
 skip
 clear fD ha hW1 h1 qX lX h;unfold ptr at HA;unfold ptr aK
 go_enter Tryz.func111,Tryz.ntmps111
 subst hN;subst hR
 go_wp2_with fail
 rw[<- hE];refine Calls.mono HA.out ?_;rintro _ w2 ⟨rfl,cO,mC,kT,hf2,qq⟩;have dY:=kP.out.keep hf2;have gF:=kI.out.keep hf2;have h2:=H1.out.on (c':=cb) hf2 qq HK.out.1 HK.out.2.2.inner (by omega);have jK:=HK.out.2.1;have cS:Hid _:=eH.out.trans hf2;clear hE hf2 qq kP kI H1 eH HA HK;generalize fa m=x at *;generalize w.heap.size+1=q at *;obtain⟨W3,jd⟩:∃ W3,W3=w2.alloc (.cells #[.bool x.1.c,.int .i64 x.1.n] 122):=⟨_,rfl⟩
 have hW3:Below w2.heap.size w2 W3:=by rw[jd];exact aD (Below.refl _ _) _
 have h3:=h2.below hW3;have hf3:bL mb mb w2 W3 cO mC kT cO mC kT:=bL.below mb mb cO mC kT hW3;have o8:Beside mb w2.heap.size W3 cO mC kT (.cells #[.bool x.1.c,.int .i64 x.1.n] 122):=Beside.new h2.i (by rw[jd];exact aj w2 _) (Nat.le_refl _);have ee:Hid _:=cS.out.trans hf3;have qt:Hid _:=dY.keep hf3;have fg:Hid _:=gF.keep hf3;have qu:Hid _:=o8;have sZ:Hid _:=jK;have H3:Hid _:=h3;obtain⟨c0,_,_,_,_,c5,_,c7,c8,c9⟩:=aC dY.b;have AL:=af dY.b;have hkb:=hb W3 cO mC kT x.2 (h3.less (by omega));have wM:Hid _:=hkb.2;have pj:Hid _:=hkb.1;clear h3 hf3 cS hW3 h2 dY gF jK hkb hb o8;unfold ptr at wM;unfold ml
 go_wp2_with fail
 rw[<- jd];refine Calls.mono wM.out ?_;rintro _ w4 ⟨rfl,iD,Bz,AQ,dE,hi4⟩;have nL:=qt.out.keep dE;have s6:=fg.out.keep dE;have vE:=qu.out.keep dE;have h4:=H3.out.on (c':=0) dE hi4 pj.out.1 pj.out.2.2.inner (by omega);have LD:=pj.out.2.1;have kA:Hid _:=ee.out.trans dE;clear jd dE hi4 qt fg qu H3 ee wM pj c0 c5 c7 c8 c9 AL;generalize fb x.2=y at *;generalize w2.heap.size=p at *;obtain⟨W5,wu⟩:∃ W5,W5=w4.alloc (.cells #[.bool y.1.c,.int .i64 y.1.n] 122):=⟨_,rfl⟩
 have yX:Below w4.heap.size w4 W5:=by rw[wu];exact aD (Below.refl _ _) _
 have h5:=h4.below yX;have eY:bL mb mb w4 W5 iD Bz AQ iD Bz AQ:=bL.below mb mb iD Bz AQ yX;have qw:=s6.keep eY;obtain⟨V1,V2⟩:=yT vE.b;obtain⟨d0,_,_,_,_,d5,_,d7,d8,d9⟩:=aC nL.b;have Im:=af nL.b;have LF:=af vE.b;have hnc:=EL mb W5 tn aS fuel iD Bz AQ y.2 n.region x.1 y.1 h5.r1 h5.fu h5.bd h5.i;have HNC:Hid _:=hnc;have Zy:Hid _:=kA.out.trans eY;have TZ:Hid _:=qw;clear hnc h5 eY qw yX h4 nL s6 vE LD kA sZ;unfold ptr ml at HNC;unfold ml
 go_wp2_with fail
 rw[<- wu];refine Calls.mono HNC.out ?_;rintro _ w6 ⟨rfl,cv6,yu,QD⟩;have gB:Hid _:=Zy.out.trans yu;have jI:Hid _:=QD;have aI:=TZ.out.keep yu;have dM:Hid _:=aI
 have x0:w6.cell? ⟨q,0,none⟩=some (.bool false):=by rw[aa aI.b];rfl
 have x1:w6.cell? ⟨q,1,none⟩=some (.int .i64 0):=by rw[aa aI.b];rfl
 have g0:w6.frozen? ⟨q,0,none⟩=false:=ag aI.b 0;have g1:w6.frozen? ⟨q,1,none⟩=false:=ag aI.b 1;have CL:=af aI.b;clear aI yu QD HNC Zy TZ wu;generalize y.2.bb n.region x.1 y.1=z at *
 go_wp2
 have aY:=dM.out;have ku:=(jI.out.beside aY.ne aY.n aY.c aY.r 0 (.bool z.1.c)).beside aY.ne aY.n aY.c aY.r 1 (.int .i64 z.1.n);have ju:=(gB.out.upto (aw (aw (Below.refl _ _) ⟨q,0,none⟩ gr (.bool z.1.c)) ⟨q,1,none⟩ gr (.int .i64 z.1.n)));refine bodyPost_ret (v:=.agg #[.bool z.1.c,.int .i64 z.1.n]) (by simp[results,Tryz.results111,go_sem,x0,x1]) rfl ⟨rfl,_,_,_,ju,ku⟩
theorem Io (mb B:Nat) (tn aS:Value) (fuel:Nat) (ns:List NR) (op:List Int) (n:NR) (ca cb:Nat) (fa fb fc:MM->MV × MM) (ha:gV mb B tn aS fuel ns op n.p0 ca fa) (hb:gV mb B tn aS fuel ns op n.p1 cb fb) (cc:Nat) (hc:gV mb B tn aS fuel ns op n.p2 cc fc)
  (w:World) (nv cv rv:Value) (m:MM) (h:jJ mb B w tn aS fuel nv cv rv m ns op (ca+(cb+cc))) :
  Calls Tryz.prog 113 #[ptr mb,aK n] w (gG mb w tn aS fuel nv cv rv (if (fa m).1.n≠0 then fb (fa m).2 else fc (fa m).2)):=by
 obtain⟨N,hN⟩:∃ N:Obj,N=.cells #[.int .i64 n.form,.int .i64 n.at_,.int .i64 n.aL,.int .i64 n.num,.string (bs n.word),.int .i64 n.region,.int .i64 n.source,.int .i64 n.p0,.int .i64 n.p1,.int .i64 n.p2] 108:=⟨_,rfl⟩;obtain⟨R,hR⟩:∃ R:Obj,R=.cells #[.bool false,.int .i64 0] 122:=⟨_,rfl⟩;obtain⟨W1,hE⟩:∃ W1,W1=(w.alloc N).alloc R:=⟨_,rfl⟩
 have hW1:Below w.heap.size w W1:=by rw[hE];exact aD (aD (Below.refl _ _) _) _
 have h1:=h.below hW1;have qX:Beside mb w.heap.size W1 nv cv rv (cA n):=Beside.new h.i (by rw[hE,hN];exact aR _ (aj w _)) (Nat.le_refl _);have lX:Beside mb (w.heap.size+1) W1 nv cv rv (.cells #[.bool false,.int .i64 0] 122):=Beside.new h.i (by rw[hE,hR];have:=aj (w.alloc N) (.cells #[.bool false,.int .i64 0] 122);simpa using this) (by omega);have eH:Hid (bL mb mb w W1 nv cv rv nv cv rv):=bL.below mb mb nv cv rv hW1;have H1:Hid _:=h1;have kP:Hid _:=qX;have kI:Hid _:=lX
 have gr:w.heap.size<=w.heap.size+1:=by omega
 have fD:=ha W1 nv cv rv m (h1.less (by omega));have HA:Hid _:=fD.2;have HK:Hid _:=fD.1
 obtain⟨y,hy⟩:∃ y,y=if (fa m).1.n≠0 then fb (fa m).2 else fc (fa m).2:=⟨_,rfl⟩
 rw[<- hy];have HY:Hid _:=hy;clear hy;clear fD ha hW1 h1 qX lX h;unfold ptr at HA;unfold ptr aK
 go_enter Tryz.func113,Tryz.ntmps113
 subst hN;subst hR
 go_wp2_with fail
 rw[<- hE];refine Calls.mono HA.out ?_;rintro _ w2 ⟨rfl,cO,mC,kT,hf2,qq⟩;have dY:=kP.out.keep hf2;have gF:=kI.out.keep hf2;have h2:=H1.out.on (c':=(cb+cc)) hf2 qq HK.out.1 HK.out.2.2.inner (by omega);have jK:=HK.out.2.1;have cS:Hid _:=eH.out.trans hf2;clear hE hf2 qq kP kI H1 eH HA HK;generalize fa m=x at *;generalize w.heap.size+1=q at *;obtain⟨W3,jd⟩:∃ W3,W3=w2.alloc (.cells #[.bool x.1.c,.int .i64 x.1.n] 122):=⟨_,rfl⟩
 have hW3:Below w2.heap.size w2 W3:=by rw[jd];exact aD (Below.refl _ _) _
 have h3:=h2.below hW3;have hf3:bL mb mb w2 W3 cO mC kT cO mC kT:=bL.below mb mb cO mC kT hW3;have o8:Beside mb w2.heap.size W3 cO mC kT (.cells #[.bool x.1.c,.int .i64 x.1.n] 122):=Beside.new h2.i (by rw[jd];exact aj w2 _) (Nat.le_refl _);have ee:Hid _:=cS.out.trans hf3;have qt:Hid _:=dY.keep hf3;have fg:Hid _:=gF.keep hf3;have qu:Hid _:=o8;have sZ:Hid _:=jK;have H3:Hid _:=h3;obtain⟨c0,_,_,_,_,c5,_,c7,c8,c9⟩:=aC dY.b;have AL:=af dY.b
 by_cases hq:x.1.n≠0
 ·have Zz:y=fb x.2:=by have:=HY.out;rw[if_pos hq] at this;exact this
  have hkb:=hb W3 cO mC kT x.2 (h3.less (by omega));have wM:Hid _:=hkb.2;rw[<- Zz] at wM
  have Ok:(x.1.n != 0)=true:=by simpa using hq
  clear h3 hf3 cS hW3 h2 dY gF jK hkb hb hc o8 Zz HY hq;unfold ptr at wM;unfold ml
  go_wp2_with fail
  rw[<- jd];refine Calls.mono wM.out ?_;rintro _ w4 ⟨rfl,iD,Bz,AQ,dE,hi4⟩;have gB:Hid _:=ee.out.trans dE;have jI:Hid _:=hi4;have aI:=fg.out.keep dE;have dM:Hid _:=aI
  have x0:w4.cell? ⟨q,0,none⟩=some (.bool false):=by rw[aa aI.b];rfl
  have x1:w4.cell? ⟨q,1,none⟩=some (.int .i64 0):=by rw[aa aI.b];rfl
  have g0:w4.frozen? ⟨q,0,none⟩=false:=ag aI.b 0;have g1:w4.frozen? ⟨q,1,none⟩=false:=ag aI.b 1;have CL:=af aI.b;clear aI dE hi4 wM ee fg qt qu H3 jd c0 c5 c7 c8 c9 AL sZ;unfold ml
  go_wp2
  have aY:=dM.out;have ku:=(jI.out.beside aY.ne aY.n aY.c aY.r 0 (.bool y.1.c)).beside aY.ne aY.n aY.c aY.r 1 (.int .i64 y.1.n);have ju:=(gB.out.upto (aw (aw (Below.refl _ _) ⟨q,0,none⟩ gr (.bool y.1.c)) ⟨q,1,none⟩ gr (.int .i64 y.1.n)));refine bodyPost_ret (v:=.agg #[.bool y.1.c,.int .i64 y.1.n]) (by simp[results,Tryz.results113,go_sem,x0,x1]) rfl ⟨rfl,_,_,_,ju,ku⟩
 ·have Zz:y=fc x.2:=by have:=HY.out;rw[if_neg hq] at this;exact this
  have hkb:=hc W3 cO mC kT x.2 (h3.less (by omega));have wM:Hid _:=hkb.2;rw[<- Zz] at wM
  have Ok:(x.1.n != 0)=false:=by simpa using hq
  clear h3 hf3 cS hW3 h2 dY gF jK hkb hb hc o8 Zz HY hq;unfold ptr at wM;unfold ml
  go_wp2_with fail
  rw[<- jd];refine Calls.mono wM.out ?_;rintro _ w4 ⟨rfl,iD,Bz,AQ,dE,hi4⟩;have gB:Hid _:=ee.out.trans dE;have jI:Hid _:=hi4;have aI:=fg.out.keep dE;have dM:Hid _:=aI
  have x0:w4.cell? ⟨q,0,none⟩=some (.bool false):=by rw[aa aI.b];rfl
  have x1:w4.cell? ⟨q,1,none⟩=some (.int .i64 0):=by rw[aa aI.b];rfl
  have g0:w4.frozen? ⟨q,0,none⟩=false:=ag aI.b 0;have g1:w4.frozen? ⟨q,1,none⟩=false:=ag aI.b 1;have CL:=af aI.b;clear aI dE hi4 wM ee fg qt qu H3 jd c0 c5 c7 c8 c9 AL sZ;unfold ml
  go_wp2
  have aY:=dM.out;have ku:=(jI.out.beside aY.ne aY.n aY.c aY.r 0 (.bool y.1.c)).beside aY.ne aY.n aY.c aY.r 1 (.int .i64 y.1.n);have ju:=(gB.out.upto (aw (aw (Below.refl _ _) ⟨q,0,none⟩ gr (.bool y.1.c)) ⟨q,1,none⟩ gr (.int .i64 y.1.n)));refine bodyPost_ret (v:=.agg #[.bool y.1.c,.int .i64 y.1.n]) (by simp[results,Tryz.results113,go_sem,x0,x1]) rfl ⟨rfl,_,_,_,ju,ku⟩
theorem ET (mb B:Nat) (tn aS:Value) (fuel:Nat) (ns:List NR) (op:List Int) (n:NR) (hrg:-1<=n.region/\n.region<=9999) (ca:Nat) (fa:MM->MV × MM) (ha:gV mb B tn aS fuel ns op n.p0 ca fa)
  (w:World) (nv cv rv:Value) (m:MM) (h:jJ mb B w tn aS fuel nv cv rv m ns op (1+ca)) :
  Calls Tryz.prog 88 #[ptr mb,aK n] w (gG mb w tn aS fuel nv cv rv ((fa (m.opn n.region)).1,(fa (m.opn n.region)).2.fin)):=by
 obtain⟨N,hN⟩:∃ N:Obj,N=.cells #[.int .i64 n.form,.int .i64 n.at_,.int .i64 n.aL,.int .i64 n.num,.string (bs n.word),.int .i64 n.region,.int .i64 n.source,.int .i64 n.p0,.int .i64 n.p1,.int .i64 n.p2] 108:=⟨_,rfl⟩;obtain⟨R,hR⟩:∃ R:Obj,R=.cells #[.bool false,.int .i64 0] 122:=⟨_,rfl⟩;obtain⟨W1,hE⟩:∃ W1,W1=(w.alloc N).alloc R:=⟨_,rfl⟩
 have hW1:Below w.heap.size w W1:=by rw[hE];exact aD (aD (Below.refl _ _) _) _
 have h1:=h.below hW1;have qX:Beside mb w.heap.size W1 nv cv rv (cA n):=Beside.new h.i (by rw[hE,hN];exact aR _ (aj w _)) (Nat.le_refl _);have lX:Beside mb (w.heap.size+1) W1 nv cv rv (.cells #[.bool false,.int .i64 0] 122):=Beside.new h.i (by rw[hE,hR];have:=aj (w.alloc N) (.cells #[.bool false,.int .i64 0] 122);simpa using this) (by omega);have eH:Hid (bL mb mb w W1 nv cv rv nv cv rv):=bL.below mb mb nv cv rv hW1;have H1:Hid _:=h1;have kP:Hid _:=qX;have kI:Hid _:=lX
 have gr:w.heap.size<=w.heap.size+1:=by omega
 have yA:=h1.ob;have hrl:=h1.rl;have hop:=EI mb W1 tn aS fuel nv cv rv m n.region (by omega) (by omega) h1.i;have KO:Hid _:=hop;have HRG:Hid _:=hrg;have HHA:Hid _:=ha;clear hop h1 qX lX h yA hrl hrg ha hW1;unfold ptr at KO;unfold ptr aK
 go_enter Tryz.func88,Tryz.ntmps88
 subst hN;subst hR
 go_wp2_with fail
 rw[<- hE];refine Calls.mono KO.out ?_;rintro _ w1 ⟨rfl,rv1,hf1,hi1⟩;have hs1:=kP.out.keep hf1;have ZA:=kI.out.keep hf1;have h1':=H1.out;have ZB:=MM.Ht h1'.bd n.region HRG.out (by have:=h1'.rl;omega);have jD:jJ mb B w1 tn aS fuel nv cv rv1 (m.opn n.region) ns op ca:=⟨hi1,ZB,h1'.env.on hf1,by simp[MM.opn],by have:=h1'.rl;simp[MM.opn];omega,by have:=h1'.ob;simp only[MM.opn];omega,h1'.nl,h1'.fu⟩;have fD:=HHA.out w1 nv cv rv1 _ jD;have HA:Hid _:=fD.2;have HK:Hid _:=fD.1;have lz:Hid _:=jD;have cS:Hid _:=eH.out.trans hf1;have ZC:Hid _:=ZA;obtain⟨_,_,_,_,_,c5,_,c7,_,_⟩:=aC hs1.b;have AL:=af hs1.b;clear hE hf1 hi1 hs1 ZA h1' ZB jD fD KO HRG HHA H1 eH kP kI;unfold ptr at HA
 go_wp2_with fail
 refine Calls.mono HA.out ?_;rintro _ w2 ⟨rfl,cO,mC,kT,hf2,qq⟩;have gF:=ZC.out.keep hf2;have h2:=lz.out.on (c':=0) hf2 qq HK.out.1 HK.out.2.2.inner (by omega);have ee:Hid _:=cS.out.trans hf2;clear hf2 qq HA HK lz cS ZC c5 c7 AL;generalize fa (m.opn n.region)=x at *;generalize w.heap.size+1=q at *;obtain⟨W3,jd⟩:∃ W3,W3=w2.alloc (.cells #[.bool x.1.c,.int .i64 x.1.n] 122):=⟨_,rfl⟩
 have hW3:Below w2.heap.size w2 W3:=by rw[jd];exact aD (Below.refl _ _) _
 have h3:=h2.below hW3;have hf3:bL mb mb w2 W3 cO mC kT cO mC kT:=bL.below mb mb cO mC kT hW3;have o8:Beside mb w2.heap.size W3 cO mC kT (.cells #[.bool x.1.c,.int .i64 x.1.n] 122):=Beside.new h2.i (by rw[jd];exact aj w2 _) (Nat.le_refl _);have hen:=Ol mb W3 tn aS fuel cO mC kT x.2 h3.r1 h3.fu h3.bd h3.i;have HEN:Hid _:=hen;have kA:Hid _:=ee.out.trans hf3;have fg:Hid _:=gF.keep hf3;have qu:Hid _:=o8;clear hen hf3 o8 gF h3 hW3 h2 ee;unfold ptr at HEN;unfold ml
 go_wp2_with fail
 rw[<- jd];refine Calls.mono HEN.out ?_;rintro _ w4 ⟨rfl,AQ,dE,hi4⟩;obtain⟨V1,V2⟩:=yT (qu.out.keep dE).b;have LF:=af (qu.out.keep dE).b;have gB:Hid _:=kA.out.trans dE;have jI:Hid _:=hi4;have aI:=fg.out.keep dE;have dM:Hid _:=aI
 have x0:w4.cell? ⟨q,0,none⟩=some (.bool false):=by rw[aa aI.b];rfl
 have x1:w4.cell? ⟨q,1,none⟩=some (.int .i64 0):=by rw[aa aI.b];rfl
 have g0:w4.frozen? ⟨q,0,none⟩=false:=ag aI.b 0;have g1:w4.frozen? ⟨q,1,none⟩=false:=ag aI.b 1;have CL:=af aI.b;clear aI dE hi4 HEN kA fg qu jd;generalize w2.heap.size=p at *
 go_wp2
 have aY:=dM.out;have ku:=(jI.out.beside aY.ne aY.n aY.c aY.r 0 (.bool x.1.c)).beside aY.ne aY.n aY.c aY.r 1 (.int .i64 x.1.n);have ju:=(gB.out.upto (aw (aw (Below.refl _ _) ⟨q,0,none⟩ gr (.bool x.1.c)) ⟨q,1,none⟩ gr (.int .i64 x.1.n)));refine bodyPost_ret (v:=.agg #[.bool x.1.c,.int .i64 x.1.n]) (by simp[results,Tryz.results88,go_sem,x0,x1]) rfl ⟨rfl,_,_,_,ju,ku⟩
theorem oD {a b:Nat} (h:a=b):((a:Int)==(b:Int))=true:=by subst h;simp
theorem lh {a b:Nat} (h:a≠b):((a:Int)==(b:Int))=false:=by rw[beq_eq_false_iff_ne];omega
def qY (f:Nat) (a b:Int):Int:=if f=8 then Int.tmod (a+b) 10000 else if f=9 then Int.tmod (a+10000-b) 10000 else if a<b then 1 else 0
theorem uu (mb B:Nat) (tn aS:Value) (fuel:Nat) (ns:List NR) (op:List Int) (n:NR) (ca:Nat) (fa:MM->MV × MM) (ha:gV mb B tn aS fuel ns op n.p0 ca fa)
  (w:World) (nv cv rv:Value) (m:MM) (h:jJ mb B w tn aS fuel nv cv rv m ns op (ca)) :
  Calls Tryz.prog 112 #[ptr mb,aK n] w (gG mb w tn aS fuel nv cv rv (if n.form=5 then ((fa m).2.use (fa m).1).1.a else ((fa m).2.use (fa m).1).1.b,((fa m).2.use (fa m).1).2)):=by
 obtain⟨N,hN⟩:∃ N:Obj,N=.cells #[.int .i64 n.form,.int .i64 n.at_,.int .i64 n.aL,.int .i64 n.num,.string (bs n.word),.int .i64 n.region,.int .i64 n.source,.int .i64 n.p0,.int .i64 n.p1,.int .i64 n.p2] 108:=⟨_,rfl⟩;obtain⟨R,hR⟩:∃ R:Obj,R=.cells #[.bool false,.int .i64 0] 122:=⟨_,rfl⟩;obtain⟨W1,hE⟩:∃ W1,W1=(w.alloc N).alloc R:=⟨_,rfl⟩
 have hW1:Below w.heap.size w W1:=by rw[hE];exact aD (aD (Below.refl _ _) _) _
 have h1:=h.below hW1;have qX:Beside mb w.heap.size W1 nv cv rv (cA n):=Beside.new h.i (by rw[hE,hN];exact aR _ (aj w _)) (Nat.le_refl _);have lX:Beside mb (w.heap.size+1) W1 nv cv rv (.cells #[.bool false,.int .i64 0] 122):=Beside.new h.i (by rw[hE,hR];have:=aj (w.alloc N) (.cells #[.bool false,.int .i64 0] 122);simpa using this) (by omega);have eH:Hid (bL mb mb w W1 nv cv rv nv cv rv):=bL.below mb mb nv cv rv hW1;have H1:Hid _:=h1;have kP:Hid _:=qX;have kI:Hid _:=lX
 have gr:w.heap.size<=w.heap.size+1:=by omega
 have fD:=ha W1 nv cv rv m (h1.less (by omega));have HA:Hid _:=fD.2;have HK:Hid _:=fD.1
 obtain⟨pv,Tt⟩:∃ pv,pv=if n.form=5 then ((fa m).2.use (fa m).1).1.a else ((fa m).2.use (fa m).1).1.b:=⟨_,rfl⟩
 rw[<- Tt];have Qu:Hid _:=Tt;clear Tt;clear fD ha hW1 h1 qX lX h;unfold ptr at HA;unfold ptr aK
 go_enter Tryz.func112,Tryz.ntmps112
 subst hN;subst hR
 go_wp2_with fail
 rw[<- hE];refine Calls.mono HA.out ?_;rintro _ w2 ⟨rfl,cO,mC,kT,hf2,qq⟩;have dY:=kP.out.keep hf2;have gF:=kI.out.keep hf2;have h2:=H1.out.on (c':=0) hf2 qq HK.out.1 HK.out.2.2.inner (by omega);have jK:=HK.out.2.1;have cS:Hid _:=eH.out.trans hf2;clear hE hf2 qq kP kI H1 eH HA HK;generalize fa m=x at *;generalize w.heap.size+1=q at *;obtain⟨W3,jd⟩:∃ W3,W3=w2.alloc (.cells #[.bool x.1.c,.int .i64 x.1.n] 122):=⟨_,rfl⟩
 have hW3:Below w2.heap.size w2 W3:=by rw[jd];exact aD (Below.refl _ _) _
 have h3:=h2.below hW3;have hf3:bL mb mb w2 W3 cO mC kT cO mC kT:=bL.below mb mb cO mC kT hW3;have o8:Beside mb w2.heap.size W3 cO mC kT (.cells #[.bool x.1.c,.int .i64 x.1.n] 122):=Beside.new h2.i (by rw[jd];exact aj w2 _) (Nat.le_refl _);have ee:Hid _:=cS.out.trans hf3;have qt:Hid _:=dY.keep hf3;have fg:Hid _:=gF.keep hf3;have qu:Hid _:=o8;have sZ:Hid _:=jK;have H3:Hid _:=h3;obtain⟨c0,_,_,_,_,c5,_,c7,c8,c9⟩:=aC dY.b;have AL:=af dY.b;have ZE:=JQ mb W3 tn aS fuel cO mC kT x.2 x.1 h3.bd h3.fu jK h3.i;have V3:Hid _:=ZE;clear h3 hf3 cS hW3 h2 dY gF jK ZE o8 qu sZ H3;unfold ptr ml at V3;unfold ml
 go_wp2_with fail
 rw[<- jd];refine Calls.mono V3.out ?_;rintro _ w4 ⟨rfl,dE,hi4⟩;have nL:=qt.out.keep dE;have s6:=fg.out.keep dE;have kA:Hid _:=ee.out.trans dE;clear jd dE qt fg ee V3 c0 c5 c7 c8 c9 AL;generalize x.2.use x.1=z at *;obtain⟨W5,wu⟩:∃ W5,W5=w4.alloc (.cells #[.bool z.1.a.c,.int .i64 z.1.a.n,.bool z.1.b.c,.int .i64 z.1.b.n,.int .i64 z.1.home,.int .i64 z.1.gO] 154):=⟨_,rfl⟩
 have yX:Below w4.heap.size w4 W5:=by rw[wu];exact aD (Below.refl _ _) _
 have pG:=hi4.below yX;have eY:bL mb mb w4 W5 cO mC kT cO mC kT:=bL.below mb mb cO mC kT yX;have qw:=s6.keep eY;have AR:=nL.keep eY
 have Al:W5.heap[w4.heap.size]?=some (.cells #[.bool z.1.a.c,.int .i64 z.1.a.n,.bool z.1.b.c,.int .i64 z.1.b.n,.int .i64 z.1.home,.int .i64 z.1.gO] 154):=by rw[wu];exact aj w4 _
 obtain⟨e0,e1,e2,e3,e4,e5⟩:=lW Al;obtain⟨d0,_,_,_,_,_,_,_,_,_⟩:=aC AR.b;have acV:=af AR.b;have acW:=af Al;unfold Og
 go_upto_region 3 with fail
 rw[<- wu];have gB:Hid _:=kA.out.trans eY;have jI:Hid _:=pG;have aI:=qw;have dM:Hid _:=aI
 have x0:W5.cell? ⟨q,0,none⟩=some (.bool false):=by rw[aa aI.b];rfl
 have x1:W5.cell? ⟨q,1,none⟩=some (.int .i64 0):=by rw[aa aI.b];rfl
 have g0:W5.frozen? ⟨q,0,none⟩=false:=ag aI.b 0;have g1:W5.frozen? ⟨q,1,none⟩=false:=ag aI.b 1;have CL:=af aI.b;clear aI qw pG eY kA AR nL s6 hi4 yX wu Al;generalize w4.heap.size=r at *
 by_cases hq:n.form=5
 ·have Ok:((n.form:Int)==5)=true:=oD hq
  have hv:pv=z.1.a:=by have:=Qu.out;rw[if_pos hq] at this;exact this
  clear Qu hq;subst hv
  go_wp2
  have aY:=dM.out;have ku:=(jI.out.beside aY.ne aY.n aY.c aY.r 0 (.bool z.1.a.c)).beside aY.ne aY.n aY.c aY.r 1 (.int .i64 z.1.a.n);have ju:=(gB.out.upto (aw (aw (Below.refl _ _) ⟨q,0,none⟩ gr (.bool z.1.a.c)) ⟨q,1,none⟩ gr (.int .i64 z.1.a.n)));refine bodyPost_ret (v:=.agg #[.bool z.1.a.c,.int .i64 z.1.a.n]) (by simp[results,Tryz.results112,go_sem,x0,x1]) rfl ⟨rfl,_,_,_,ju,ku⟩
 ·have Ok:((n.form:Int)==5)=false:=lh hq
  have hv:pv=z.1.b:=by have:=Qu.out;rw[if_neg hq] at this;exact this
  clear Qu hq;subst hv
  go_wp2
  have aY:=dM.out;have ku:=(jI.out.beside aY.ne aY.n aY.c aY.r 0 (.bool z.1.b.c)).beside aY.ne aY.n aY.c aY.r 1 (.int .i64 z.1.b.n);have ju:=(gB.out.upto (aw (aw (Below.refl _ _) ⟨q,0,none⟩ gr (.bool z.1.b.c)) ⟨q,1,none⟩ gr (.int .i64 z.1.b.n)));refine bodyPost_ret (v:=.agg #[.bool z.1.b.c,.int .i64 z.1.b.n]) (by simp[results,Tryz.results112,go_sem,x0,x1]) rfl ⟨rfl,_,_,_,ju,ku⟩
theorem wN (mb B:Nat) (tn aS:Value) (fuel:Nat) (ns:List NR) (op:List Int) (n:NR) (ca cb:Nat) (fa fb:MM->MV × MM) (ha:gV mb B tn aS fuel ns op n.p0 ca fa) (hb:gV mb B tn aS fuel ns op n.p1 cb fb)
  (w:World) (nv cv rv:Value) (m:MM) (h:jJ mb B w tn aS fuel nv cv rv m ns op (ca+cb)) :
  Calls Tryz.prog 114 #[ptr mb,aK n] w (gG mb w tn aS fuel nv cv rv (⟨false,qY n.form (fa m).1.n (fb (fa m).2).1.n⟩,(fb (fa m).2).2)):=by
 obtain⟨N,hN⟩:∃ N:Obj,N=.cells #[.int .i64 n.form,.int .i64 n.at_,.int .i64 n.aL,.int .i64 n.num,.string (bs n.word),.int .i64 n.region,.int .i64 n.source,.int .i64 n.p0,.int .i64 n.p1,.int .i64 n.p2] 108:=⟨_,rfl⟩;obtain⟨R,hR⟩:∃ R:Obj,R=.cells #[.bool false,.int .i64 0] 122:=⟨_,rfl⟩;obtain⟨W1,hE⟩:∃ W1,W1=(w.alloc N).alloc R:=⟨_,rfl⟩
 have hW1:Below w.heap.size w W1:=by rw[hE];exact aD (aD (Below.refl _ _) _) _
 have h1:=h.below hW1;have qX:Beside mb w.heap.size W1 nv cv rv (cA n):=Beside.new h.i (by rw[hE,hN];exact aR _ (aj w _)) (Nat.le_refl _);have lX:Beside mb (w.heap.size+1) W1 nv cv rv (.cells #[.bool false,.int .i64 0] 122):=Beside.new h.i (by rw[hE,hR];have:=aj (w.alloc N) (.cells #[.bool false,.int .i64 0] 122);simpa using this) (by omega);have eH:Hid (bL mb mb w W1 nv cv rv nv cv rv):=bL.below mb mb nv cv rv hW1;have H1:Hid _:=h1;have kP:Hid _:=qX;have kI:Hid _:=lX
 have gr:w.heap.size<=w.heap.size+1:=by omega
 have fD:=ha W1 nv cv rv m (h1.less (by omega));have HA:Hid _:=fD.2;have HK:Hid _:=fD.1;obtain⟨av,ZF⟩:∃ av,av=qY n.form (fa m).1.n (fb (fa m).2).1.n:=⟨_,rfl⟩;rw[<- ZF];have T9:Hid _:=ZF;clear ZF;clear fD ha hW1 h1 qX lX h;unfold ptr at HA;unfold ptr aK
 go_enter Tryz.func114,Tryz.ntmps114
 subst hN;subst hR
 go_wp2_with fail
 rw[<- hE];refine Calls.mono HA.out ?_;rintro _ w2 ⟨rfl,cO,mC,kT,hf2,qq⟩;have dY:=kP.out.keep hf2;have gF:=kI.out.keep hf2;have h2:=H1.out.on (c':=cb) hf2 qq HK.out.1 HK.out.2.2.inner (by omega);have jK:=HK.out.2.1;have cS:Hid _:=eH.out.trans hf2;clear hE hf2 qq kP kI H1 eH HA HK;generalize fa m=x at *;generalize w.heap.size+1=q at *;obtain⟨W3,jd⟩:∃ W3,W3=w2.alloc (.cells #[.bool x.1.c,.int .i64 x.1.n] 122):=⟨_,rfl⟩
 have hW3:Below w2.heap.size w2 W3:=by rw[jd];exact aD (Below.refl _ _) _
 have h3:=h2.below hW3;have hf3:bL mb mb w2 W3 cO mC kT cO mC kT:=bL.below mb mb cO mC kT hW3;have o8:Beside mb w2.heap.size W3 cO mC kT (.cells #[.bool x.1.c,.int .i64 x.1.n] 122):=Beside.new h2.i (by rw[jd];exact aj w2 _) (Nat.le_refl _);have ee:Hid _:=cS.out.trans hf3;have qt:Hid _:=dY.keep hf3;have fg:Hid _:=gF.keep hf3;have qu:Hid _:=o8;have sZ:Hid _:=jK;have H3:Hid _:=h3;obtain⟨c0,_,_,_,_,c5,_,c7,c8,c9⟩:=aC dY.b;have AL:=af dY.b;have hkb:=hb W3 cO mC kT x.2 (h3.less (by omega));have wM:Hid _:=hkb.2;have pj:Hid _:=hkb.1;clear h3 hf3 cS hW3 h2 dY gF jK hkb hb o8;unfold ptr at wM;unfold ml
 go_wp2_with fail
 rw[<- jd];refine Calls.mono wM.out ?_;rintro _ w4 ⟨rfl,iD,Bz,AQ,dE,hi4⟩;have nL:=qt.out.keep dE;have s6:=fg.out.keep dE;have vE:=qu.out.keep dE;have h4:=H3.out.on (c':=0) dE hi4 pj.out.1 pj.out.2.2.inner (by omega);have LD:=pj.out.2.1;have kA:Hid _:=ee.out.trans dE;clear jd dE hi4 qt fg qu H3 ee wM pj c0 c5 c7 c8 c9 AL;generalize fb x.2=y at *;generalize w2.heap.size=p at *;obtain⟨W5,wu⟩:∃ W5,W5=w4.alloc (.cells #[.bool y.1.c,.int .i64 y.1.n] 122):=⟨_,rfl⟩
 have yX:Below w4.heap.size w4 W5:=by rw[wu];exact aD (Below.refl _ _) _
 have h5:=h4.below yX;have eY:bL mb mb w4 W5 iD Bz AQ iD Bz AQ:=bL.below mb mb iD Bz AQ yX;have qw:=s6.keep eY;obtain⟨V1,V2⟩:=yT vE.b;obtain⟨d0,_,_,_,_,d5,_,d7,d8,d9⟩:=aC nL.b;have Im:=af nL.b;have LF:=af vE.b;have AR:=nL.keep eY;have LG:=vE.keep eY
 have hyb:W5.heap[w4.heap.size]?=some (.cells #[.bool y.1.c,.int .i64 y.1.n] 122):=by rw[wu];exact aj w4 _
 obtain⟨e0,e1⟩:=yT hyb;obtain⟨k0,k1⟩:=yT LG.b;obtain⟨m0,_,_,_,_,_,_,_,_,_⟩:=aC AR.b;have hl1:=af AR.b;have hl2:=af LG.b;have hl3:=af hyb;have ZG:=sZ.out;unfold MV.bd at ZG LD;unfold ml
 go_upto_region 3 with fail
 rw[<- wu];have gB:Hid _:=kA.out.trans eY;have jI:Hid _:=h5.i;have aI:=qw;have dM:Hid _:=aI
 have x0:W5.cell? ⟨q,0,none⟩=some (.bool false):=by rw[aa aI.b];rfl
 have x1:W5.cell? ⟨q,1,none⟩=some (.int .i64 0):=by rw[aa aI.b];rfl
 have g0:W5.frozen? ⟨q,0,none⟩=false:=ag aI.b 0;have g1:W5.frozen? ⟨q,1,none⟩=false:=ag aI.b 1;have CL:=af aI.b;clear aI qw h5 eY kA AR LG nL vE s6 h4 yX wu hyb sZ d0 d5 d7 d8 d9 V1 V2 Im LF;generalize w4.heap.size=r at *
 by_cases Dz:n.form=8
 ·have Ok:((n.form:Int)==8)=true:=oD Dz
  have hv:av=Int.tmod (x.1.n+y.1.n) 10000:=by rw[T9.out];unfold qY;rw[if_pos Dz]
  clear Dz T9;subst hv
  go_wp2
  have aY:=dM.out;have ku:=(jI.out.beside aY.ne aY.n aY.c aY.r 0 (.bool (⟨false,Int.tmod (x.1.n+y.1.n) 10000⟩:MV).c)).beside aY.ne aY.n aY.c aY.r 1 (.int .i64 (⟨false,Int.tmod (x.1.n+y.1.n) 10000⟩:MV).n);have ju:=(gB.out.upto (aw (aw (Below.refl _ _) ⟨q,0,none⟩ gr (.bool (⟨false,Int.tmod (x.1.n+y.1.n) 10000⟩:MV).c)) ⟨q,1,none⟩ gr (.int .i64 (⟨false,Int.tmod (x.1.n+y.1.n) 10000⟩:MV).n)));refine bodyPost_ret (v:=.agg #[.bool (⟨false,Int.tmod (x.1.n+y.1.n) 10000⟩:MV).c,.int .i64 (⟨false,Int.tmod (x.1.n+y.1.n) 10000⟩:MV).n]) (by simp[results,Tryz.results114,go_sem,x0,x1]) rfl ⟨rfl,_,_,_,ju,ku⟩
 ·have Ok:((n.form:Int)==8)=false:=lh Dz
  by_cases Ue:n.form=9
  ·have abA:((n.form:Int)==9)=true:=oD Ue
   have hv:av=Int.tmod (x.1.n+10000-y.1.n) 10000:=by rw[T9.out];unfold qY;rw[if_neg Dz,if_pos Ue]
   clear Dz Ue T9;subst hv
   go_wp2
   have aY:=dM.out;have ku:=(jI.out.beside aY.ne aY.n aY.c aY.r 0 (.bool (⟨false,Int.tmod (x.1.n+10000-y.1.n) 10000⟩:MV).c)).beside aY.ne aY.n aY.c aY.r 1 (.int .i64 (⟨false,Int.tmod (x.1.n+10000-y.1.n) 10000⟩:MV).n);have ju:=(gB.out.upto (aw (aw (Below.refl _ _) ⟨q,0,none⟩ gr (.bool (⟨false,Int.tmod (x.1.n+10000-y.1.n) 10000⟩:MV).c)) ⟨q,1,none⟩ gr (.int .i64 (⟨false,Int.tmod (x.1.n+10000-y.1.n) 10000⟩:MV).n)));refine bodyPost_ret (v:=.agg #[.bool (⟨false,Int.tmod (x.1.n+10000-y.1.n) 10000⟩:MV).c,.int .i64 (⟨false,Int.tmod (x.1.n+10000-y.1.n) 10000⟩:MV).n]) (by simp[results,Tryz.results114,go_sem,x0,x1]) rfl ⟨rfl,_,_,_,ju,ku⟩
  ·have abA:((n.form:Int)==9)=false:=lh Ue
   by_cases hlt:x.1.n<y.1.n
   ·have hv:av=1:=by rw[T9.out];unfold qY;rw[if_neg Dz,if_neg Ue,if_pos hlt]
    clear Dz Ue T9;subst hv
    go_wp2
    have aY:=dM.out;have ku:=(jI.out.beside aY.ne aY.n aY.c aY.r 0 (.bool (⟨false,1⟩:MV).c)).beside aY.ne aY.n aY.c aY.r 1 (.int .i64 (⟨false,1⟩:MV).n);have ju:=(gB.out.upto (aw (aw (Below.refl _ _) ⟨q,0,none⟩ gr (.bool (⟨false,1⟩:MV).c)) ⟨q,1,none⟩ gr (.int .i64 (⟨false,1⟩:MV).n)));refine bodyPost_ret (v:=.agg #[.bool (⟨false,1⟩:MV).c,.int .i64 (⟨false,1⟩:MV).n]) (by simp[results,Tryz.results114,go_sem,x0,x1]) rfl ⟨rfl,_,_,_,ju,ku⟩
   ·have hv:av=0:=by rw[T9.out];unfold qY;rw[if_neg Dz,if_neg Ue,if_neg hlt]
    clear Dz Ue T9;subst hv
    go_wp2
    have aY:=dM.out;have ku:=(jI.out.beside aY.ne aY.n aY.c aY.r 0 (.bool (⟨false,0⟩:MV).c)).beside aY.ne aY.n aY.c aY.r 1 (.int .i64 (⟨false,0⟩:MV).n);have ju:=(gB.out.upto (aw (aw (Below.refl _ _) ⟨q,0,none⟩ gr (.bool (⟨false,0⟩:MV).c)) ⟨q,1,none⟩ gr (.int .i64 (⟨false,0⟩:MV).n)));refine bodyPost_ret (v:=.agg #[.bool (⟨false,0⟩:MV).c,.int .i64 (⟨false,0⟩:MV).n]) (by simp[results,Tryz.results114,go_sem,x0,x1]) rfl ⟨rfl,_,_,_,ju,ku⟩
end Go.Proofs.YtpicaknklgccoabGreatDoor
