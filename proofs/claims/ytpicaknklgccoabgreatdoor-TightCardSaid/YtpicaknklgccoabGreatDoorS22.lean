import Derived.Test.YtpicaknklgccoabGreatDoorS21
set_option maxHeartbeats 4000000
set_option maxRecDepth 100000
namespace Go.Proofs.YtpicaknklgccoabGreatDoor
open Go.RowKit
structure Dl (mb B:Nat) (w:World) (nv cv rv tn aO:Value) (ns:List NR) (op:List Int):Prop where
 b:B<=mb
 s:B<=w.heap.size
 n:∀ g,nv.ownBlock=some g->B<=g
 c:∀ g,cv.ownBlock=some g->B<=g
 r:∀ g,rv.ownBlock=some g->B<=g
 tree:∀ w',Below B w w'->bg w' tn aO ns op
 len:ns.length<=9000
theorem Dl.Sq {mb B:Nat} {w w':World} {nv cv rv bB wZ uI tn aO:Value} {ns:List NR} {op:List Int} (h:Dl mb B w nv cv rv tn aO ns op) (hf:bz mb mb w w' nv cv rv bB wZ uI):Below B w w' :=
 have hb:=h.b
 have hs:=h.s
 ⟨hf.os,hf.tape,hf.output,hf.size,fun k hk=>hf.blk k (by omega) (by omega) (by omega) (fun e=>by have:=h.n k e;omega) (fun e=>by have:=h.c k e;omega) (fun e=>by have:=h.r k e;omega)⟩
theorem Dl.on {mb B:Nat} {w w':World} {nv cv rv bB wZ uI tn aO:Value} {ns:List NR} {op:List Int} (h:Dl mb B w nv cv rv tn aO ns op) (hf:bz mb mb w w' nv cv rv bB wZ uI):Dl mb B w' bB wZ uI tn aO ns op:=by
 have hs:=h.s
 refine ⟨h.b,Nat.le_trans h.s hf.size,fun g hg=>?_,fun g hg=>?_,fun g hg=>?_,fun w2 h2=>h.tree w2 ((h.Sq hf).trans h2),h.len⟩
 ·rcases hf.s g hg with e | e
  ·exact h.n g e
  ·omega
 ·rcases hf.n g hg with e | e
  ·exact h.c g e
  ·omega
 ·rcases hf.o g hg with e | e
  ·exact h.r g e
  ·omega
structure ja (mb B:Nat) (w:World) (tn aO:Value) (fuel:Nat) (nv cv rv:Value) (m:MM) (ns:List NR) (op:List Int) (c:Nat):Prop where
 i:iq mb w tn aO fuel nv cv rv m
 bd:nG fuel m
 env:Dl mb B w nv cv rv tn aO ns op
 r1:1<=m.regs.length
 rl:m.regs.length+c<=20000
 ob:m.opened+20000 * (fuel - m.steps)+c<=3000000000
 nl:m.named.length=ns.length
 fu:fuel<=20000
theorem ja.on {mb B:Nat} {w w':World} {tn aO:Value} {fuel:Nat} {nv cv rv bB wZ uI:Value} {m m':MM} {ns:List NR} {op:List Int} {c c' a s:Nat} (h:ja mb B w tn aO fuel nv cv rv m ns op c) (hf:bz mb mb w w' nv cv rv bB wZ uI)
  (hi:iq mb w' tn aO fuel bB wZ uI m') (hb:nG fuel m') (hg:eD a s m m') (hc:a+c'<=c):ja mb B w' tn aO fuel bB wZ uI m' ns op c':=by
 have h1:=h.ob;have h2:=hg.op;have h3:=hg.st;have h4:=hb.steps;have h5:=h.rl;have h6:=h.r1
 exact ⟨hi,hb,h.env.on hf,by rw [hg.rg];exact h6,by rw [hg.rg];omega,by omega,by rw [hg.nm];exact h.nl,h.fu⟩
theorem ja.below {mb B:Nat} {w w':World} {tn aO:Value} {fuel:Nat} {nv cv rv:Value} {m:MM} {ns:List NR} {op:List Int} {c:Nat} (h:ja mb B w tn aO fuel nv cv rv m ns op c) (hb:Below w.heap.size w w'):ja mb B w' tn aO fuel nv cv rv m ns op c :=
 ⟨h.i.below hb,h.bd,h.env.on (bz.below mb mb nv cv rv hb),h.r1,h.rl,h.ob,h.nl,h.fu⟩
theorem ja.less {mb B:Nat} {w:World} {tn aO:Value} {fuel:Nat} {nv cv rv:Value} {m:MM} {ns:List NR} {op:List Int} {c c':Nat} (h:ja mb B w tn aO fuel nv cv rv m ns op c) (hc:c'<=c):ja mb B w tn aO fuel nv cv rv m ns op c' :=
 ⟨h.i,h.bd,h.env,h.r1,by have:=h.rl;omega,by have:=h.ob;omega,h.nl,h.fu⟩
def fY (mb:Nat) (w:World) (tn aO:Value) (fuel:Nat) (nv cv rv:Value) (x:MV × MM) (e:Ending) (w':World):Prop :=
 e=.returned (lG x.1)/\∃ bB wZ uI,bz mb mb w w' nv cv rv bB wZ uI/\iq mb w' tn aO fuel bB wZ uI x.2
def gB (mb B:Nat) (tn aO:Value) (fuel:Nat) (ns:List NR) (op:List Int) (i:Int) (c:Nat) (f:MM->MV × MM):Prop :=
 ∀ (w:World) (nv cv rv:Value) (m:MM),ja mb B w tn aO fuel nv cv rv m ns op c->wY fuel c m (f m)/\Calls Tryz.prog 68 #[ptr mb,.int .i64 i] w (fY mb w tn aO fuel nv cv rv (f m))
theorem Dm (mb B:Nat) (tn aO:Value) (fuel:Nat) (ns:List NR) (op:List Int) (n:NR) (ca cb:Nat) (fa fb:MM->MV × MM) (oU:-1<=n.p0/\n.p0<=9000)
  (ha:gB mb B tn aO fuel ns op n.p0 ca fa) (hb:gB mb B tn aO fuel ns op n.p1 cb fb)
  (w:World) (nv cv rv:Value) (m:MM) (h:ja mb B w tn aO fuel nv cv rv m ns op (ca+cb)) :
  Calls Tryz.prog 110 #[ptr mb,aI n] w (fY mb w tn aO fuel nv cv rv (fb ((fa m).2.name n.p0 (fa m).1))):=by
 obtain ⟨N,hN⟩:∃ N:Obj,N=.cells #[.int .i64 n.form,.int .i64 n.at_,.int .i64 n.aR,.int .i64 n.num,.string (bs n.word),.int .i64 n.region,.int .i64 n.source,.int .i64 n.p0,.int .i64 n.p1,.int .i64 n.p2] 108:=⟨_,rfl⟩
 obtain ⟨R,hR⟩:∃ R:Obj,R=.cells #[.bool false,.int .i64 0] 122:=⟨_,rfl⟩
 obtain ⟨W1,hE⟩:∃ W1,W1=(w.alloc N).alloc R:=⟨_,rfl⟩
 have hW1:Below w.heap.size w W1:=by rw [hE];exact aE (aE (Below.refl _ _) _) _
 have h1:=h.below hW1
 have pj:Beside mb w.heap.size W1 nv cv rv (bU n):=Beside.new h.i (by rw [hE,hN];exact aN _ (aj w _)) (Nat.le_refl _)
 have kX:Beside mb (w.heap.size+1) W1 nv cv rv (.cells #[.bool false,.int .i64 0] 122):=Beside.new h.i (by rw [hE,hR];have:=aj (w.alloc N) (.cells #[.bool false,.int .i64 0] 122);simpa using this) (by omega)
 have eW:=ha W1 nv cv rv m (h1.less (by omega))
 have dV:Hid (bz mb mb w W1 nv cv rv nv cv rv):=bz.below mb mb nv cv rv hW1
 have HA:Hid _:=eW.2
 have HK:Hid _:=eW.1
 have HB:Hid _:=hb
 have H1:Hid _:=h1
 have lF:Hid _:=pj
 have jR:Hid _:=kX
 have HP:Hid _:=oU
 have fV:w.heap.size<=w.heap.size+1:=by omega
 clear eW ha hb hW1 h1 pj kX h oU
 unfold ptr at HA
 unfold ptr aI
 go_enter Tryz.func110,Tryz.ntmps110
 subst hN
 subst hR
 go_wp2_with fail
 rw [<- hE]
 refine Calls.mono HA.out ?_
 rintro _ w2 ⟨rfl,cz,lJ,j0,hf2,qW⟩
 have dC:=lF.out.keep hf2
 have fX:=jR.out.keep hf2
 have h2:=H1.out.on (c':=cb) hf2 qW HK.out.1 HK.out.2.2.inner (by omega)
 have jb:=HK.out.2.1
 have cx:Hid _:=dV.out.trans hf2
 clear hE hf2 qW lF jR H1 dV HA HK
 generalize fa m=x at *
 generalize w.heap.size+1=q at *
 obtain ⟨W3,iv⟩:∃ W3,W3=w2.alloc (.cells #[.bool x.1.c,.int .i64 x.1.n] 122):=⟨_,rfl⟩
 have hW3:Below w2.heap.size w2 W3:=by rw [iv];exact aE (Below.refl _ _) _
 have h3:=h2.below hW3
 have hf3:bz mb mb w2 W3 cz lJ j0 cz lJ j0:=bz.below mb mb cz lJ j0 hW3
 have sK:=dC.keep hf3
 have JM:=fX.keep hf3
 have bt:=Df mb W3 tn aO fuel cz lJ j0 x.2 n.p0 x.1 (by have:=HP.out;omega) (by rw [h3.nl];exact h3.env.len) h3.i
 have yT:Hid _:=bt
 have H3:Hid _:=h3
 have dK:Hid _:=cx.out.trans hf3
 have oF:Hid _:=sK
 have eI:Hid _:=JM
 have qZ:Hid _:=jb
 obtain ⟨_,_,_,_,_,_,_,c7,c8,_⟩:=aC dC.b
 have zz:=af dC.b
 clear h3 hf3 sK JM bt cx hW3 h2 dC fX jb
 unfold ptr lG at yT
 unfold lG
 go_wp2_with fail
 rw [<- iv]
 refine Calls.mono yT.out ?_
 rintro _ w4 ⟨rfl,dc,hi4⟩
 have mH:=oF.out.keep dc
 have rf:=eI.out.keep dc
 have h4:=H3.out.on (c':=cb) dc hi4 (MM.vL H3.out.bd n.p0 x.1 qZ.out) (mX x.2 n.p0 x.1) (by omega)
 have hkb:=HB.out w4 cz lJ j0 _ h4
 have u9:Hid _:=hkb.2
 have jG:Hid _:=dK.out.trans dc
 have JN:Hid _:=rf
 obtain ⟨_,_,_,_,_,_,_,d7,d8,_⟩:=aC mH.b
 have FL:=af mH.b
 clear iv dc hi4 h4 hkb mH rf oF eI H3 dK yT qZ c7 c8 zz HB HP
 unfold ptr at u9
 go_wp2_with fail
 refine Calls.mono u9.out ?_
 rintro _ w5 ⟨rfl,FM,cv5,rv5,eG,nS⟩
 have aG:=JN.out.keep eG
 have fS:Hid _:=jG.out.trans eG
 have iZ:Hid _:=nS
 have dq:Hid _:=aG
 have x0:w5.cell? ⟨q,0,none⟩=some (.bool false):=by rw [aa aG.b];rfl
 have x1:w5.cell? ⟨q,1,none⟩=some (.int .i64 0):=by rw [aa aG.b];rfl
 have g0:w5.frozen? ⟨q,0,none⟩=false:=ag aG.b 0
 have g1:w5.frozen? ⟨q,1,none⟩=false:=ag aG.b 1
 have Bl:=af aG.b
 clear eG nS aG JN jG u9 d7 d8 FL
 generalize fb (x.2.name n.p0 x.1)=y at *
 unfold lG
 go_wp2
 have aV:=dq.out
 have jB:=(iZ.out.beside aV.ne aV.n aV.c aV.r 0 (.bool y.1.c)).beside aV.ne aV.n aV.c aV.r 1 (.int .i64 y.1.n)
 have iK:=(fS.out.upto (aw (aw (Below.refl _ _) ⟨q,0,none⟩ fV (.bool y.1.c)) ⟨q,1,none⟩ fV (.int .i64 y.1.n)))
 refine bodyPost_ret (v:=.agg #[.bool y.1.c,.int .i64 y.1.n]) (by simp [results,Tryz.results110,go_sem,x0,x1]) rfl ⟨rfl,_,_,_,iK,jB⟩
theorem Bm (mb B:Nat) (tn aO:Value) (fuel:Nat) (ns:List NR) (op:List Int) (n:NR) (ca cb:Nat) (fa fb:MM->MV × MM) (ha:gB mb B tn aO fuel ns op n.p0 ca fa) (hb:gB mb B tn aO fuel ns op n.p1 cb fb)
  (w:World) (nv cv rv:Value) (m:MM) (h:ja mb B w tn aO fuel nv cv rv m ns op (ca+cb)) :
  Calls Tryz.prog 111 #[ptr mb,aI n] w (fY mb w tn aO fuel nv cv rv ((fb (fa m).2).2.aX n.region (fa m).1 (fb (fa m).2).1)):=by
 obtain ⟨N,hN⟩:∃ N:Obj,N=.cells #[.int .i64 n.form,.int .i64 n.at_,.int .i64 n.aR,.int .i64 n.num,.string (bs n.word),.int .i64 n.region,.int .i64 n.source,.int .i64 n.p0,.int .i64 n.p1,.int .i64 n.p2] 108:=⟨_,rfl⟩
 obtain ⟨R,hR⟩:∃ R:Obj,R=.cells #[.bool false,.int .i64 0] 122:=⟨_,rfl⟩
 obtain ⟨W1,hE⟩:∃ W1,W1=(w.alloc N).alloc R:=⟨_,rfl⟩
 have hW1:Below w.heap.size w W1:=by rw [hE];exact aE (aE (Below.refl _ _) _) _
 have h1:=h.below hW1
 have pj:Beside mb w.heap.size W1 nv cv rv (bU n):=Beside.new h.i (by rw [hE,hN];exact aN _ (aj w _)) (Nat.le_refl _)
 have kX:Beside mb (w.heap.size+1) W1 nv cv rv (.cells #[.bool false,.int .i64 0] 122):=Beside.new h.i (by rw [hE,hR];have:=aj (w.alloc N) (.cells #[.bool false,.int .i64 0] 122);simpa using this) (by omega)
 have dV:Hid (bz mb mb w W1 nv cv rv nv cv rv):=bz.below mb mb nv cv rv hW1
 have H1:Hid _:=h1
 have lF:Hid _:=pj
 have jR:Hid _:=kX
 have fV:w.heap.size<=w.heap.size+1:=by omega
 have eW:=ha W1 nv cv rv m (h1.less (by omega))
 have HA:Hid _:=eW.2
 have HK:Hid _:=eW.1
 skip
 clear eW ha hW1 h1 pj kX h
 unfold ptr at HA
 unfold ptr aI
 go_enter Tryz.func111,Tryz.ntmps111
 subst hN
 subst hR
 go_wp2_with fail
 rw [<- hE]
 refine Calls.mono HA.out ?_
 rintro _ w2 ⟨rfl,cz,lJ,j0,hf2,qW⟩
 have dC:=lF.out.keep hf2
 have fX:=jR.out.keep hf2
 have h2:=H1.out.on (c':=cb) hf2 qW HK.out.1 HK.out.2.2.inner (by omega)
 have jb:=HK.out.2.1
 have cx:Hid _:=dV.out.trans hf2
 clear hE hf2 qW lF jR H1 dV HA HK
 generalize fa m=x at *
 generalize w.heap.size+1=q at *
 obtain ⟨W3,iv⟩:∃ W3,W3=w2.alloc (.cells #[.bool x.1.c,.int .i64 x.1.n] 122):=⟨_,rfl⟩
 have hW3:Below w2.heap.size w2 W3:=by rw [iv];exact aE (Below.refl _ _) _
 have h3:=h2.below hW3
 have hf3:bz mb mb w2 W3 cz lJ j0 cz lJ j0:=bz.below mb mb cz lJ j0 hW3
 have nM:Beside mb w2.heap.size W3 cz lJ j0 (.cells #[.bool x.1.c,.int .i64 x.1.n] 122):=Beside.new h2.i (by rw [iv];exact aj w2 _) (Nat.le_refl _)
 have dK:Hid _:=cx.out.trans hf3
 have oF:Hid _:=dC.keep hf3
 have eI:Hid _:=fX.keep hf3
 have oG:Hid _:=nM
 have qZ:Hid _:=jb
 have H3:Hid _:=h3
 obtain ⟨c0,_,_,_,_,c5,_,c7,c8,c9⟩:=aC dC.b
 have zz:=af dC.b
 have hkb:=hb W3 cz lJ j0 x.2 (h3.less (by omega))
 have u9:Hid _:=hkb.2
 have nQ:Hid _:=hkb.1
 clear h3 hf3 cx hW3 h2 dC fX jb hkb hb nM
 unfold ptr at u9
 unfold lG
 go_wp2_with fail
 rw [<- iv]
 refine Calls.mono u9.out ?_
 rintro _ w4 ⟨rfl,gK,Af,zF,dc,hi4⟩
 have mH:=oF.out.keep dc
 have rf:=eI.out.keep dc
 have tP:=oG.out.keep dc
 have h4:=H3.out.on (c':=0) dc hi4 nQ.out.1 nQ.out.2.2.inner (by omega)
 have JO:=nQ.out.2.1
 have jG:Hid _:=dK.out.trans dc
 clear iv dc hi4 oF eI oG H3 dK u9 nQ c0 c5 c7 c8 c9 zz
 generalize fb x.2=y at *
 generalize w2.heap.size=p at *
 obtain ⟨W5,uK⟩:∃ W5,W5=w4.alloc (.cells #[.bool y.1.c,.int .i64 y.1.n] 122):=⟨_,rfl⟩
 have wQ:Below w4.heap.size w4 W5:=by rw [uK];exact aE (Below.refl _ _) _
 have h5:=h4.below wQ
 have eG:bz mb mb w4 W5 gK Af zF gK Af zF:=bz.below mb mb gK Af zF wQ
 have oH:=rf.keep eG
 obtain ⟨Uv,Uw⟩:=xb tP.b
 obtain ⟨d0,_,_,_,_,d5,_,d7,d8,d9⟩:=aC mH.b
 have FL:=af mH.b
 have JP:=af tP.b
 have hnc:=Dk mb W5 tn aO fuel gK Af zF y.2 n.region x.1 y.1 h5.r1 h5.fu h5.bd h5.i
 have HNC:Hid _:=hnc
 have XT:Hid _:=jG.out.trans eG
 have Sr:Hid _:=oH
 clear hnc h5 eG oH wQ h4 mH rf tP JO jG qZ
 unfold ptr lG at HNC
 unfold lG
 go_wp2_with fail
 rw [<- uK]
 refine Calls.mono HNC.out ?_
 rintro _ w6 ⟨rfl,cv6,xd,Ph⟩
 have fS:Hid _:=XT.out.trans xd
 have iZ:Hid _:=Ph
 have aG:=Sr.out.keep xd
 have dq:Hid _:=aG
 have x0:w6.cell? ⟨q,0,none⟩=some (.bool false):=by rw [aa aG.b];rfl
 have x1:w6.cell? ⟨q,1,none⟩=some (.int .i64 0):=by rw [aa aG.b];rfl
 have g0:w6.frozen? ⟨q,0,none⟩=false:=ag aG.b 0
 have g1:w6.frozen? ⟨q,1,none⟩=false:=ag aG.b 1
 have Bl:=af aG.b
 clear aG xd Ph HNC XT Sr uK
 generalize y.2.aX n.region x.1 y.1=z at *
 go_wp2
 have aV:=dq.out
 have jB:=(iZ.out.beside aV.ne aV.n aV.c aV.r 0 (.bool z.1.c)).beside aV.ne aV.n aV.c aV.r 1 (.int .i64 z.1.n)
 have iK:=(fS.out.upto (aw (aw (Below.refl _ _) ⟨q,0,none⟩ fV (.bool z.1.c)) ⟨q,1,none⟩ fV (.int .i64 z.1.n)))
 refine bodyPost_ret (v:=.agg #[.bool z.1.c,.int .i64 z.1.n]) (by simp [results,Tryz.results111,go_sem,x0,x1]) rfl ⟨rfl,_,_,_,iK,jB⟩
theorem FN (mb B:Nat) (tn aO:Value) (fuel:Nat) (ns:List NR) (op:List Int) (n:NR) (ca cb:Nat) (fa fb fc:MM->MV × MM) (ha:gB mb B tn aO fuel ns op n.p0 ca fa) (hb:gB mb B tn aO fuel ns op n.p1 cb fb) (cc:Nat) (hc:gB mb B tn aO fuel ns op n.p2 cc fc)
  (w:World) (nv cv rv:Value) (m:MM) (h:ja mb B w tn aO fuel nv cv rv m ns op (ca+(cb+cc))) :
  Calls Tryz.prog 113 #[ptr mb,aI n] w (fY mb w tn aO fuel nv cv rv (if (fa m).1.n≠0 then fb (fa m).2 else fc (fa m).2)):=by
 obtain ⟨N,hN⟩:∃ N:Obj,N=.cells #[.int .i64 n.form,.int .i64 n.at_,.int .i64 n.aR,.int .i64 n.num,.string (bs n.word),.int .i64 n.region,.int .i64 n.source,.int .i64 n.p0,.int .i64 n.p1,.int .i64 n.p2] 108:=⟨_,rfl⟩
 obtain ⟨R,hR⟩:∃ R:Obj,R=.cells #[.bool false,.int .i64 0] 122:=⟨_,rfl⟩
 obtain ⟨W1,hE⟩:∃ W1,W1=(w.alloc N).alloc R:=⟨_,rfl⟩
 have hW1:Below w.heap.size w W1:=by rw [hE];exact aE (aE (Below.refl _ _) _) _
 have h1:=h.below hW1
 have pj:Beside mb w.heap.size W1 nv cv rv (bU n):=Beside.new h.i (by rw [hE,hN];exact aN _ (aj w _)) (Nat.le_refl _)
 have kX:Beside mb (w.heap.size+1) W1 nv cv rv (.cells #[.bool false,.int .i64 0] 122):=Beside.new h.i (by rw [hE,hR];have:=aj (w.alloc N) (.cells #[.bool false,.int .i64 0] 122);simpa using this) (by omega)
 have dV:Hid (bz mb mb w W1 nv cv rv nv cv rv):=bz.below mb mb nv cv rv hW1
 have H1:Hid _:=h1
 have lF:Hid _:=pj
 have jR:Hid _:=kX
 have fV:w.heap.size<=w.heap.size+1:=by omega
 have eW:=ha W1 nv cv rv m (h1.less (by omega))
 have HA:Hid _:=eW.2
 have HK:Hid _:=eW.1
 obtain ⟨y,hy⟩:∃ y,y=if (fa m).1.n≠0 then fb (fa m).2 else fc (fa m).2:=⟨_,rfl⟩
 rw [<- hy]
 have HY:Hid _:=hy
 clear hy
 clear eW ha hW1 h1 pj kX h
 unfold ptr at HA
 unfold ptr aI
 go_enter Tryz.func113,Tryz.ntmps113
 subst hN
 subst hR
 go_wp2_with fail
 rw [<- hE]
 refine Calls.mono HA.out ?_
 rintro _ w2 ⟨rfl,cz,lJ,j0,hf2,qW⟩
 have dC:=lF.out.keep hf2
 have fX:=jR.out.keep hf2
 have h2:=H1.out.on (c':=(cb+cc)) hf2 qW HK.out.1 HK.out.2.2.inner (by omega)
 have jb:=HK.out.2.1
 have cx:Hid _:=dV.out.trans hf2
 clear hE hf2 qW lF jR H1 dV HA HK
 generalize fa m=x at *
 generalize w.heap.size+1=q at *
 obtain ⟨W3,iv⟩:∃ W3,W3=w2.alloc (.cells #[.bool x.1.c,.int .i64 x.1.n] 122):=⟨_,rfl⟩
 have hW3:Below w2.heap.size w2 W3:=by rw [iv];exact aE (Below.refl _ _) _
 have h3:=h2.below hW3
 have hf3:bz mb mb w2 W3 cz lJ j0 cz lJ j0:=bz.below mb mb cz lJ j0 hW3
 have nM:Beside mb w2.heap.size W3 cz lJ j0 (.cells #[.bool x.1.c,.int .i64 x.1.n] 122):=Beside.new h2.i (by rw [iv];exact aj w2 _) (Nat.le_refl _)
 have dK:Hid _:=cx.out.trans hf3
 have oF:Hid _:=dC.keep hf3
 have eI:Hid _:=fX.keep hf3
 have oG:Hid _:=nM
 have qZ:Hid _:=jb
 have H3:Hid _:=h3
 obtain ⟨c0,_,_,_,_,c5,_,c7,c8,c9⟩:=aC dC.b
 have zz:=af dC.b
 by_cases hq:x.1.n≠0
 ·have XU:y=fb x.2:=by have:=HY.out;rw [if_pos hq] at this;exact this
  have hkb:=hb W3 cz lJ j0 x.2 (h3.less (by omega))
  have u9:Hid _:=hkb.2
  rw [<- XU] at u9
  have Mw:(x.1.n != 0)=true:=by simpa using hq
  clear h3 hf3 cx hW3 h2 dC fX jb hkb hb hc nM XU HY hq
  unfold ptr at u9
  unfold lG
  go_wp2_with fail
  rw [<- iv]
  refine Calls.mono u9.out ?_
  rintro _ w4 ⟨rfl,gK,Af,zF,dc,hi4⟩
  have fS:Hid _:=dK.out.trans dc
  have iZ:Hid _:=hi4
  have aG:=eI.out.keep dc
  have dq:Hid _:=aG
  have x0:w4.cell? ⟨q,0,none⟩=some (.bool false):=by rw [aa aG.b];rfl
  have x1:w4.cell? ⟨q,1,none⟩=some (.int .i64 0):=by rw [aa aG.b];rfl
  have g0:w4.frozen? ⟨q,0,none⟩=false:=ag aG.b 0
  have g1:w4.frozen? ⟨q,1,none⟩=false:=ag aG.b 1
  have Bl:=af aG.b
  clear aG dc hi4 u9 dK eI oF oG H3 iv c0 c5 c7 c8 c9 zz qZ
  unfold lG
  go_wp2
  have aV:=dq.out
  have jB:=(iZ.out.beside aV.ne aV.n aV.c aV.r 0 (.bool y.1.c)).beside aV.ne aV.n aV.c aV.r 1 (.int .i64 y.1.n)
  have iK:=(fS.out.upto (aw (aw (Below.refl _ _) ⟨q,0,none⟩ fV (.bool y.1.c)) ⟨q,1,none⟩ fV (.int .i64 y.1.n)))
  refine bodyPost_ret (v:=.agg #[.bool y.1.c,.int .i64 y.1.n]) (by simp [results,Tryz.results113,go_sem,x0,x1]) rfl ⟨rfl,_,_,_,iK,jB⟩
 ·have XU:y=fc x.2:=by have:=HY.out;rw [if_neg hq] at this;exact this
  have hkb:=hc W3 cz lJ j0 x.2 (h3.less (by omega))
  have u9:Hid _:=hkb.2
  rw [<- XU] at u9
  have Mw:(x.1.n != 0)=false:=by simpa using hq
  clear h3 hf3 cx hW3 h2 dC fX jb hkb hb hc nM XU HY hq
  unfold ptr at u9
  unfold lG
  go_wp2_with fail
  rw [<- iv]
  refine Calls.mono u9.out ?_
  rintro _ w4 ⟨rfl,gK,Af,zF,dc,hi4⟩
  have fS:Hid _:=dK.out.trans dc
  have iZ:Hid _:=hi4
  have aG:=eI.out.keep dc
  have dq:Hid _:=aG
  have x0:w4.cell? ⟨q,0,none⟩=some (.bool false):=by rw [aa aG.b];rfl
  have x1:w4.cell? ⟨q,1,none⟩=some (.int .i64 0):=by rw [aa aG.b];rfl
  have g0:w4.frozen? ⟨q,0,none⟩=false:=ag aG.b 0
  have g1:w4.frozen? ⟨q,1,none⟩=false:=ag aG.b 1
  have Bl:=af aG.b
  clear aG dc hi4 u9 dK eI oF oG H3 iv c0 c5 c7 c8 c9 zz qZ
  unfold lG
  go_wp2
  have aV:=dq.out
  have jB:=(iZ.out.beside aV.ne aV.n aV.c aV.r 0 (.bool y.1.c)).beside aV.ne aV.n aV.c aV.r 1 (.int .i64 y.1.n)
  have iK:=(fS.out.upto (aw (aw (Below.refl _ _) ⟨q,0,none⟩ fV (.bool y.1.c)) ⟨q,1,none⟩ fV (.int .i64 y.1.n)))
  refine bodyPost_ret (v:=.agg #[.bool y.1.c,.int .i64 y.1.n]) (by simp [results,Tryz.results113,go_sem,x0,x1]) rfl ⟨rfl,_,_,_,iK,jB⟩
theorem Dn (mb B:Nat) (tn aO:Value) (fuel:Nat) (ns:List NR) (op:List Int) (n:NR) (hrg:-1<=n.region/\n.region<=9999) (ca:Nat) (fa:MM->MV × MM) (ha:gB mb B tn aO fuel ns op n.p0 ca fa)
  (w:World) (nv cv rv:Value) (m:MM) (h:ja mb B w tn aO fuel nv cv rv m ns op (1+ca)) :
  Calls Tryz.prog 88 #[ptr mb,aI n] w (fY mb w tn aO fuel nv cv rv ((fa (m.opn n.region)).1,(fa (m.opn n.region)).2.fin)):=by
 obtain ⟨N,hN⟩:∃ N:Obj,N=.cells #[.int .i64 n.form,.int .i64 n.at_,.int .i64 n.aR,.int .i64 n.num,.string (bs n.word),.int .i64 n.region,.int .i64 n.source,.int .i64 n.p0,.int .i64 n.p1,.int .i64 n.p2] 108:=⟨_,rfl⟩
 obtain ⟨R,hR⟩:∃ R:Obj,R=.cells #[.bool false,.int .i64 0] 122:=⟨_,rfl⟩
 obtain ⟨W1,hE⟩:∃ W1,W1=(w.alloc N).alloc R:=⟨_,rfl⟩
 have hW1:Below w.heap.size w W1:=by rw [hE];exact aE (aE (Below.refl _ _) _) _
 have h1:=h.below hW1
 have pj:Beside mb w.heap.size W1 nv cv rv (bU n):=Beside.new h.i (by rw [hE,hN];exact aN _ (aj w _)) (Nat.le_refl _)
 have kX:Beside mb (w.heap.size+1) W1 nv cv rv (.cells #[.bool false,.int .i64 0] 122):=Beside.new h.i (by rw [hE,hR];have:=aj (w.alloc N) (.cells #[.bool false,.int .i64 0] 122);simpa using this) (by omega)
 have dV:Hid (bz mb mb w W1 nv cv rv nv cv rv):=bz.below mb mb nv cv rv hW1
 have H1:Hid _:=h1
 have lF:Hid _:=pj
 have jR:Hid _:=kX
 have fV:w.heap.size<=w.heap.size+1:=by omega
 have yU:=h1.ob
 have hrl:=h1.rl
 have hop:=Dh mb W1 tn aO fuel nv cv rv m n.region (by omega) (by omega) h1.i
 have Jh:Hid _:=hop
 have ZG:Hid _:=hrg
 have HHA:Hid _:=ha
 clear hop h1 pj kX h yU hrl hrg ha hW1
 unfold ptr at Jh
 unfold ptr aI
 go_enter Tryz.func88,Tryz.ntmps88
 subst hN
 subst hR
 go_wp2_with fail
 rw [<- hE]
 refine Calls.mono Jh.out ?_
 rintro _ w1 ⟨rfl,rv1,hf1,hi1⟩
 have hs1:=lF.out.keep hf1
 have XV:=jR.out.keep hf1
 have h1':=H1.out
 have XW:=MM.FA h1'.bd n.region ZG.out (by have:=h1'.rl;omega)
 have mn:ja mb B w1 tn aO fuel nv cv rv1 (m.opn n.region) ns op ca:=⟨hi1,XW,h1'.env.on hf1,by simp [MM.opn],by have:=h1'.rl;simp [MM.opn];omega,by have:=h1'.ob;simp only [MM.opn];omega,h1'.nl,h1'.fu⟩
 have eW:=HHA.out w1 nv cv rv1 _ mn
 have HA:Hid _:=eW.2
 have HK:Hid _:=eW.1
 have qu:Hid _:=mn
 have cx:Hid _:=dV.out.trans hf1
 have XX:Hid _:=XV
 obtain ⟨_,_,_,_,_,c5,_,c7,_,_⟩:=aC hs1.b
 have zz:=af hs1.b
 clear hE hf1 hi1 hs1 XV h1' XW mn eW Jh ZG HHA H1 dV lF jR
 unfold ptr at HA
 go_wp2_with fail
 refine Calls.mono HA.out ?_
 rintro _ w2 ⟨rfl,cz,lJ,j0,hf2,qW⟩
 have fX:=XX.out.keep hf2
 have h2:=qu.out.on (c':=0) hf2 qW HK.out.1 HK.out.2.2.inner (by omega)
 have dK:Hid _:=cx.out.trans hf2
 clear hf2 qW HA HK qu cx XX c5 c7 zz
 generalize fa (m.opn n.region)=x at *
 generalize w.heap.size+1=q at *
 obtain ⟨W3,iv⟩:∃ W3,W3=w2.alloc (.cells #[.bool x.1.c,.int .i64 x.1.n] 122):=⟨_,rfl⟩
 have hW3:Below w2.heap.size w2 W3:=by rw [iv];exact aE (Below.refl _ _) _
 have h3:=h2.below hW3
 have hf3:bz mb mb w2 W3 cz lJ j0 cz lJ j0:=bz.below mb mb cz lJ j0 hW3
 have nM:Beside mb w2.heap.size W3 cz lJ j0 (.cells #[.bool x.1.c,.int .i64 x.1.n] 122):=Beside.new h2.i (by rw [iv];exact aj w2 _) (Nat.le_refl _)
 have hen:=Mx mb W3 tn aO fuel cz lJ j0 x.2 h3.r1 h3.fu h3.bd h3.i
 have HEN:Hid _:=hen
 have jG:Hid _:=dK.out.trans hf3
 have eI:Hid _:=fX.keep hf3
 have oG:Hid _:=nM
 clear hen hf3 nM fX h3 hW3 h2 dK
 unfold ptr at HEN
 unfold lG
 go_wp2_with fail
 rw [<- iv]
 refine Calls.mono HEN.out ?_
 rintro _ w4 ⟨rfl,zF,dc,hi4⟩
 obtain ⟨Uv,Uw⟩:=xb (oG.out.keep dc).b
 have JP:=af (oG.out.keep dc).b
 have fS:Hid _:=jG.out.trans dc
 have iZ:Hid _:=hi4
 have aG:=eI.out.keep dc
 have dq:Hid _:=aG
 have x0:w4.cell? ⟨q,0,none⟩=some (.bool false):=by rw [aa aG.b];rfl
 have x1:w4.cell? ⟨q,1,none⟩=some (.int .i64 0):=by rw [aa aG.b];rfl
 have g0:w4.frozen? ⟨q,0,none⟩=false:=ag aG.b 0
 have g1:w4.frozen? ⟨q,1,none⟩=false:=ag aG.b 1
 have Bl:=af aG.b
 clear aG dc hi4 HEN jG eI oG iv
 generalize w2.heap.size=p at *
 go_wp2
 have aV:=dq.out
 have jB:=(iZ.out.beside aV.ne aV.n aV.c aV.r 0 (.bool x.1.c)).beside aV.ne aV.n aV.c aV.r 1 (.int .i64 x.1.n)
 have iK:=(fS.out.upto (aw (aw (Below.refl _ _) ⟨q,0,none⟩ fV (.bool x.1.c)) ⟨q,1,none⟩ fV (.int .i64 x.1.n)))
 refine bodyPost_ret (v:=.agg #[.bool x.1.c,.int .i64 x.1.n]) (by simp [results,Tryz.results88,go_sem,x0,x1]) rfl ⟨rfl,_,_,_,iK,jB⟩
theorem mZ {a b:Nat} (h:a=b):((a:Int) == (b:Int))=true:=by subst h;simp
theorem kf {a b:Nat} (h:a≠b):((a:Int) == (b:Int))=false:=by rw [beq_eq_false_iff_ne];omega
def pq (f:Nat) (a b:Int):Int:=if f=8 then Int.tmod (a+b) 10000 else if f=9 then Int.tmod (a+10000 - b) 10000 else if a < b then 1 else 0
theorem sL (mb B:Nat) (tn aO:Value) (fuel:Nat) (ns:List NR) (op:List Int) (n:NR) (ca:Nat) (fa:MM->MV × MM) (ha:gB mb B tn aO fuel ns op n.p0 ca fa)
  (w:World) (nv cv rv:Value) (m:MM) (h:ja mb B w tn aO fuel nv cv rv m ns op (ca)) :
  Calls Tryz.prog 112 #[ptr mb,aI n] w (fY mb w tn aO fuel nv cv rv (if n.form=5 then ((fa m).2.use (fa m).1).1.a else ((fa m).2.use (fa m).1).1.b,((fa m).2.use (fa m).1).2)):=by
 obtain ⟨N,hN⟩:∃ N:Obj,N=.cells #[.int .i64 n.form,.int .i64 n.at_,.int .i64 n.aR,.int .i64 n.num,.string (bs n.word),.int .i64 n.region,.int .i64 n.source,.int .i64 n.p0,.int .i64 n.p1,.int .i64 n.p2] 108:=⟨_,rfl⟩
 obtain ⟨R,hR⟩:∃ R:Obj,R=.cells #[.bool false,.int .i64 0] 122:=⟨_,rfl⟩
 obtain ⟨W1,hE⟩:∃ W1,W1=(w.alloc N).alloc R:=⟨_,rfl⟩
 have hW1:Below w.heap.size w W1:=by rw [hE];exact aE (aE (Below.refl _ _) _) _
 have h1:=h.below hW1
 have pj:Beside mb w.heap.size W1 nv cv rv (bU n):=Beside.new h.i (by rw [hE,hN];exact aN _ (aj w _)) (Nat.le_refl _)
 have kX:Beside mb (w.heap.size+1) W1 nv cv rv (.cells #[.bool false,.int .i64 0] 122):=Beside.new h.i (by rw [hE,hR];have:=aj (w.alloc N) (.cells #[.bool false,.int .i64 0] 122);simpa using this) (by omega)
 have dV:Hid (bz mb mb w W1 nv cv rv nv cv rv):=bz.below mb mb nv cv rv hW1
 have H1:Hid _:=h1
 have lF:Hid _:=pj
 have jR:Hid _:=kX
 have fV:w.heap.size<=w.heap.size+1:=by omega
 have eW:=ha W1 nv cv rv m (h1.less (by omega))
 have HA:Hid _:=eW.2
 have HK:Hid _:=eW.1
 obtain ⟨pv,Ss⟩:∃ pv,pv=if n.form=5 then ((fa m).2.use (fa m).1).1.a else ((fa m).2.use (fa m).1).1.b:=⟨_,rfl⟩
 rw [<- Ss]
 have Pj:Hid _:=Ss
 clear Ss
 clear eW ha hW1 h1 pj kX h
 unfold ptr at HA
 unfold ptr aI
 go_enter Tryz.func112,Tryz.ntmps112
 subst hN
 subst hR
 go_wp2_with fail
 rw [<- hE]
 refine Calls.mono HA.out ?_
 rintro _ w2 ⟨rfl,cz,lJ,j0,hf2,qW⟩
 have dC:=lF.out.keep hf2
 have fX:=jR.out.keep hf2
 have h2:=H1.out.on (c':=0) hf2 qW HK.out.1 HK.out.2.2.inner (by omega)
 have jb:=HK.out.2.1
 have cx:Hid _:=dV.out.trans hf2
 clear hE hf2 qW lF jR H1 dV HA HK
 generalize fa m=x at *
 generalize w.heap.size+1=q at *
 obtain ⟨W3,iv⟩:∃ W3,W3=w2.alloc (.cells #[.bool x.1.c,.int .i64 x.1.n] 122):=⟨_,rfl⟩
 have hW3:Below w2.heap.size w2 W3:=by rw [iv];exact aE (Below.refl _ _) _
 have h3:=h2.below hW3
 have hf3:bz mb mb w2 W3 cz lJ j0 cz lJ j0:=bz.below mb mb cz lJ j0 hW3
 have nM:Beside mb w2.heap.size W3 cz lJ j0 (.cells #[.bool x.1.c,.int .i64 x.1.n] 122):=Beside.new h2.i (by rw [iv];exact aj w2 _) (Nat.le_refl _)
 have dK:Hid _:=cx.out.trans hf3
 have oF:Hid _:=dC.keep hf3
 have eI:Hid _:=fX.keep hf3
 have oG:Hid _:=nM
 have qZ:Hid _:=jb
 have H3:Hid _:=h3
 obtain ⟨c0,_,_,_,_,c5,_,c7,c8,c9⟩:=aC dC.b
 have zz:=af dC.b
 have XY:=Ht mb W3 tn aO fuel cz lJ j0 x.2 x.1 h3.bd h3.fu jb h3.i
 have Ux:Hid _:=XY
 clear h3 hf3 cx hW3 h2 dC fX jb XY nM oG qZ H3
 unfold ptr lG at Ux
 unfold lG
 go_wp2_with fail
 rw [<- iv]
 refine Calls.mono Ux.out ?_
 rintro _ w4 ⟨rfl,dc,hi4⟩
 have mH:=oF.out.keep dc
 have rf:=eI.out.keep dc
 have jG:Hid _:=dK.out.trans dc
 clear iv dc oF eI dK Ux c0 c5 c7 c8 c9 zz
 generalize x.2.use x.1=z at *
 obtain ⟨W5,uK⟩:∃ W5,W5=w4.alloc (.cells #[.bool z.1.a.c,.int .i64 z.1.a.n,.bool z.1.b.c,.int .i64 z.1.b.n,.int .i64 z.1.home,.int .i64 z.1.gA] 154):=⟨_,rfl⟩
 have wQ:Below w4.heap.size w4 W5:=by rw [uK];exact aE (Below.refl _ _) _
 have nS:=hi4.below wQ
 have eG:bz mb mb w4 W5 cz lJ j0 cz lJ j0:=bz.below mb mb cz lJ j0 wQ
 have oH:=rf.keep eG
 have zG:=mH.keep eG
 have yQ:W5.heap[w4.heap.size]?=some (.cells #[.bool z.1.a.c,.int .i64 z.1.a.n,.bool z.1.b.c,.int .i64 z.1.b.n,.int .i64 z.1.home,.int .i64 z.1.gA] 154):=by rw [uK];exact aj w4 _
 obtain ⟨e0,e1,e2,e3,e4,e5⟩:=kW yQ
 obtain ⟨d0,_,_,_,_,_,_,_,_,_⟩:=aC zG.b
 have abK:=af zG.b
 have abL:=af yQ
 unfold Ms
 go_upto_region 3 with fail
 rw [<- uK]
 have fS:Hid _:=jG.out.trans eG
 have iZ:Hid _:=nS
 have aG:=oH
 have dq:Hid _:=aG
 have x0:W5.cell? ⟨q,0,none⟩=some (.bool false):=by rw [aa aG.b];rfl
 have x1:W5.cell? ⟨q,1,none⟩=some (.int .i64 0):=by rw [aa aG.b];rfl
 have g0:W5.frozen? ⟨q,0,none⟩=false:=ag aG.b 0
 have g1:W5.frozen? ⟨q,1,none⟩=false:=ag aG.b 1
 have Bl:=af aG.b
 clear aG oH nS eG jG zG mH rf hi4 wQ uK yQ
 generalize w4.heap.size=r at *
 by_cases hq:n.form=5
 ·have Mw:((n.form:Int) == 5)=true:=mZ hq
  have hv:pv=z.1.a:=by have:=Pj.out;rw [if_pos hq] at this;exact this
  clear Pj hq
  subst hv
  go_wp2
  have aV:=dq.out
  have jB:=(iZ.out.beside aV.ne aV.n aV.c aV.r 0 (.bool z.1.a.c)).beside aV.ne aV.n aV.c aV.r 1 (.int .i64 z.1.a.n)
  have iK:=(fS.out.upto (aw (aw (Below.refl _ _) ⟨q,0,none⟩ fV (.bool z.1.a.c)) ⟨q,1,none⟩ fV (.int .i64 z.1.a.n)))
  refine bodyPost_ret (v:=.agg #[.bool z.1.a.c,.int .i64 z.1.a.n]) (by simp [results,Tryz.results112,go_sem,x0,x1]) rfl ⟨rfl,_,_,_,iK,jB⟩
 ·have Mw:((n.form:Int) == 5)=false:=kf hq
  have hv:pv=z.1.b:=by have:=Pj.out;rw [if_neg hq] at this;exact this
  clear Pj hq
  subst hv
  go_wp2
  have aV:=dq.out
  have jB:=(iZ.out.beside aV.ne aV.n aV.c aV.r 0 (.bool z.1.b.c)).beside aV.ne aV.n aV.c aV.r 1 (.int .i64 z.1.b.n)
  have iK:=(fS.out.upto (aw (aw (Below.refl _ _) ⟨q,0,none⟩ fV (.bool z.1.b.c)) ⟨q,1,none⟩ fV (.int .i64 z.1.b.n)))
  refine bodyPost_ret (v:=.agg #[.bool z.1.b.c,.int .i64 z.1.b.n]) (by simp [results,Tryz.results112,go_sem,x0,x1]) rfl ⟨rfl,_,_,_,iK,jB⟩
theorem ve (mb B:Nat) (tn aO:Value) (fuel:Nat) (ns:List NR) (op:List Int) (n:NR) (ca cb:Nat) (fa fb:MM->MV × MM) (ha:gB mb B tn aO fuel ns op n.p0 ca fa) (hb:gB mb B tn aO fuel ns op n.p1 cb fb)
  (w:World) (nv cv rv:Value) (m:MM) (h:ja mb B w tn aO fuel nv cv rv m ns op (ca+cb)) :
  Calls Tryz.prog 114 #[ptr mb,aI n] w (fY mb w tn aO fuel nv cv rv (⟨false,pq n.form (fa m).1.n (fb (fa m).2).1.n⟩,(fb (fa m).2).2)):=by
 obtain ⟨N,hN⟩:∃ N:Obj,N=.cells #[.int .i64 n.form,.int .i64 n.at_,.int .i64 n.aR,.int .i64 n.num,.string (bs n.word),.int .i64 n.region,.int .i64 n.source,.int .i64 n.p0,.int .i64 n.p1,.int .i64 n.p2] 108:=⟨_,rfl⟩
 obtain ⟨R,hR⟩:∃ R:Obj,R=.cells #[.bool false,.int .i64 0] 122:=⟨_,rfl⟩
 obtain ⟨W1,hE⟩:∃ W1,W1=(w.alloc N).alloc R:=⟨_,rfl⟩
 have hW1:Below w.heap.size w W1:=by rw [hE];exact aE (aE (Below.refl _ _) _) _
 have h1:=h.below hW1
 have pj:Beside mb w.heap.size W1 nv cv rv (bU n):=Beside.new h.i (by rw [hE,hN];exact aN _ (aj w _)) (Nat.le_refl _)
 have kX:Beside mb (w.heap.size+1) W1 nv cv rv (.cells #[.bool false,.int .i64 0] 122):=Beside.new h.i (by rw [hE,hR];have:=aj (w.alloc N) (.cells #[.bool false,.int .i64 0] 122);simpa using this) (by omega)
 have dV:Hid (bz mb mb w W1 nv cv rv nv cv rv):=bz.below mb mb nv cv rv hW1
 have H1:Hid _:=h1
 have lF:Hid _:=pj
 have jR:Hid _:=kX
 have fV:w.heap.size<=w.heap.size+1:=by omega
 have eW:=ha W1 nv cv rv m (h1.less (by omega))
 have HA:Hid _:=eW.2
 have HK:Hid _:=eW.1
 obtain ⟨av,XZ⟩:∃ av,av=pq n.form (fa m).1.n (fb (fa m).2).1.n:=⟨_,rfl⟩
 rw [<- XZ]
 have St:Hid _:=XZ
 clear XZ
 clear eW ha hW1 h1 pj kX h
 unfold ptr at HA
 unfold ptr aI
 go_enter Tryz.func114,Tryz.ntmps114
 subst hN
 subst hR
 go_wp2_with fail
 rw [<- hE]
 refine Calls.mono HA.out ?_
 rintro _ w2 ⟨rfl,cz,lJ,j0,hf2,qW⟩
 have dC:=lF.out.keep hf2
 have fX:=jR.out.keep hf2
 have h2:=H1.out.on (c':=cb) hf2 qW HK.out.1 HK.out.2.2.inner (by omega)
 have jb:=HK.out.2.1
 have cx:Hid _:=dV.out.trans hf2
 clear hE hf2 qW lF jR H1 dV HA HK
 generalize fa m=x at *
 generalize w.heap.size+1=q at *
 obtain ⟨W3,iv⟩:∃ W3,W3=w2.alloc (.cells #[.bool x.1.c,.int .i64 x.1.n] 122):=⟨_,rfl⟩
 have hW3:Below w2.heap.size w2 W3:=by rw [iv];exact aE (Below.refl _ _) _
 have h3:=h2.below hW3
 have hf3:bz mb mb w2 W3 cz lJ j0 cz lJ j0:=bz.below mb mb cz lJ j0 hW3
 have nM:Beside mb w2.heap.size W3 cz lJ j0 (.cells #[.bool x.1.c,.int .i64 x.1.n] 122):=Beside.new h2.i (by rw [iv];exact aj w2 _) (Nat.le_refl _)
 have dK:Hid _:=cx.out.trans hf3
 have oF:Hid _:=dC.keep hf3
 have eI:Hid _:=fX.keep hf3
 have oG:Hid _:=nM
 have qZ:Hid _:=jb
 have H3:Hid _:=h3
 obtain ⟨c0,_,_,_,_,c5,_,c7,c8,c9⟩:=aC dC.b
 have zz:=af dC.b
 have hkb:=hb W3 cz lJ j0 x.2 (h3.less (by omega))
 have u9:Hid _:=hkb.2
 have nQ:Hid _:=hkb.1
 clear h3 hf3 cx hW3 h2 dC fX jb hkb hb nM
 unfold ptr at u9
 unfold lG
 go_wp2_with fail
 rw [<- iv]
 refine Calls.mono u9.out ?_
 rintro _ w4 ⟨rfl,gK,Af,zF,dc,hi4⟩
 have mH:=oF.out.keep dc
 have rf:=eI.out.keep dc
 have tP:=oG.out.keep dc
 have h4:=H3.out.on (c':=0) dc hi4 nQ.out.1 nQ.out.2.2.inner (by omega)
 have JO:=nQ.out.2.1
 have jG:Hid _:=dK.out.trans dc
 clear iv dc hi4 oF eI oG H3 dK u9 nQ c0 c5 c7 c8 c9 zz
 generalize fb x.2=y at *
 generalize w2.heap.size=p at *
 obtain ⟨W5,uK⟩:∃ W5,W5=w4.alloc (.cells #[.bool y.1.c,.int .i64 y.1.n] 122):=⟨_,rfl⟩
 have wQ:Below w4.heap.size w4 W5:=by rw [uK];exact aE (Below.refl _ _) _
 have h5:=h4.below wQ
 have eG:bz mb mb w4 W5 gK Af zF gK Af zF:=bz.below mb mb gK Af zF wQ
 have oH:=rf.keep eG
 obtain ⟨Uv,Uw⟩:=xb tP.b
 obtain ⟨d0,_,_,_,_,d5,_,d7,d8,d9⟩:=aC mH.b
 have FL:=af mH.b
 have JP:=af tP.b
 have zG:=mH.keep eG
 have JQ:=tP.keep eG
 have hyb:W5.heap[w4.heap.size]?=some (.cells #[.bool y.1.c,.int .i64 y.1.n] 122):=by rw [uK];exact aj w4 _
 obtain ⟨e0,e1⟩:=xb hyb
 obtain ⟨k0,k1⟩:=xb JQ.b
 obtain ⟨m0,_,_,_,_,_,_,_,_,_⟩:=aC zG.b
 have hl1:=af zG.b
 have hl2:=af JQ.b
 have hl3:=af hyb
 have X0:=qZ.out
 unfold MV.bd at X0 JO
 unfold lG
 go_upto_region 3 with fail
 rw [<- uK]
 have fS:Hid _:=jG.out.trans eG
 have iZ:Hid _:=h5.i
 have aG:=oH
 have dq:Hid _:=aG
 have x0:W5.cell? ⟨q,0,none⟩=some (.bool false):=by rw [aa aG.b];rfl
 have x1:W5.cell? ⟨q,1,none⟩=some (.int .i64 0):=by rw [aa aG.b];rfl
 have g0:W5.frozen? ⟨q,0,none⟩=false:=ag aG.b 0
 have g1:W5.frozen? ⟨q,1,none⟩=false:=ag aG.b 1
 have Bl:=af aG.b
 clear aG oH h5 eG jG zG JQ mH tP rf h4 wQ uK hyb qZ d0 d5 d7 d8 d9 Uv Uw FL JP
 generalize w4.heap.size=r at *
 by_cases Hu:n.form=8
 ·have Mw:((n.form:Int) == 8)=true:=mZ Hu
  have hv:av=Int.tmod (x.1.n+y.1.n) 10000:=by rw [St.out];unfold pq;rw [if_pos Hu]
  clear Hu St
  subst hv
  go_wp2
  have aV:=dq.out
  have jB:=(iZ.out.beside aV.ne aV.n aV.c aV.r 0 (.bool (⟨false,Int.tmod (x.1.n+y.1.n) 10000⟩:MV).c)).beside aV.ne aV.n aV.c aV.r 1 (.int .i64 (⟨false,Int.tmod (x.1.n+y.1.n) 10000⟩:MV).n)
  have iK:=(fS.out.upto (aw (aw (Below.refl _ _) ⟨q,0,none⟩ fV (.bool (⟨false,Int.tmod (x.1.n+y.1.n) 10000⟩:MV).c)) ⟨q,1,none⟩ fV (.int .i64 (⟨false,Int.tmod (x.1.n+y.1.n) 10000⟩:MV).n)))
  refine bodyPost_ret (v:=.agg #[.bool (⟨false,Int.tmod (x.1.n+y.1.n) 10000⟩:MV).c,.int .i64 (⟨false,Int.tmod (x.1.n+y.1.n) 10000⟩:MV).n]) (by simp [results,Tryz.results114,go_sem,x0,x1]) rfl ⟨rfl,_,_,_,iK,jB⟩
 ·have Mw:((n.form:Int) == 8)=false:=kf Hu
  by_cases Lb:n.form=9
  ·have aaA:((n.form:Int) == 9)=true:=mZ Lb
   have hv:av=Int.tmod (x.1.n+10000 - y.1.n) 10000:=by rw [St.out];unfold pq;rw [if_neg Hu,if_pos Lb]
   clear Hu Lb St
   subst hv
   go_wp2
   have aV:=dq.out
   have jB:=(iZ.out.beside aV.ne aV.n aV.c aV.r 0 (.bool (⟨false,Int.tmod (x.1.n+10000 - y.1.n) 10000⟩:MV).c)).beside aV.ne aV.n aV.c aV.r 1 (.int .i64 (⟨false,Int.tmod (x.1.n+10000 - y.1.n) 10000⟩:MV).n)
   have iK:=(fS.out.upto (aw (aw (Below.refl _ _) ⟨q,0,none⟩ fV (.bool (⟨false,Int.tmod (x.1.n+10000 - y.1.n) 10000⟩:MV).c)) ⟨q,1,none⟩ fV (.int .i64 (⟨false,Int.tmod (x.1.n+10000 - y.1.n) 10000⟩:MV).n)))
   refine bodyPost_ret (v:=.agg #[.bool (⟨false,Int.tmod (x.1.n+10000 - y.1.n) 10000⟩:MV).c,.int .i64 (⟨false,Int.tmod (x.1.n+10000 - y.1.n) 10000⟩:MV).n]) (by simp [results,Tryz.results114,go_sem,x0,x1]) rfl ⟨rfl,_,_,_,iK,jB⟩
  ·have aaA:((n.form:Int) == 9)=false:=kf Lb
   by_cases hlt:x.1.n < y.1.n
   ·have hv:av=1:=by rw [St.out];unfold pq;rw [if_neg Hu,if_neg Lb,if_pos hlt]
    clear Hu Lb St
    subst hv
    go_wp2
    have aV:=dq.out
    have jB:=(iZ.out.beside aV.ne aV.n aV.c aV.r 0 (.bool (⟨false,1⟩:MV).c)).beside aV.ne aV.n aV.c aV.r 1 (.int .i64 (⟨false,1⟩:MV).n)
    have iK:=(fS.out.upto (aw (aw (Below.refl _ _) ⟨q,0,none⟩ fV (.bool (⟨false,1⟩:MV).c)) ⟨q,1,none⟩ fV (.int .i64 (⟨false,1⟩:MV).n)))
    refine bodyPost_ret (v:=.agg #[.bool (⟨false,1⟩:MV).c,.int .i64 (⟨false,1⟩:MV).n]) (by simp [results,Tryz.results114,go_sem,x0,x1]) rfl ⟨rfl,_,_,_,iK,jB⟩
   ·have hv:av=0:=by rw [St.out];unfold pq;rw [if_neg Hu,if_neg Lb,if_neg hlt]
    clear Hu Lb St
    subst hv
    go_wp2
    have aV:=dq.out
    have jB:=(iZ.out.beside aV.ne aV.n aV.c aV.r 0 (.bool (⟨false,0⟩:MV).c)).beside aV.ne aV.n aV.c aV.r 1 (.int .i64 (⟨false,0⟩:MV).n)
    have iK:=(fS.out.upto (aw (aw (Below.refl _ _) ⟨q,0,none⟩ fV (.bool (⟨false,0⟩:MV).c)) ⟨q,1,none⟩ fV (.int .i64 (⟨false,0⟩:MV).n)))
    refine bodyPost_ret (v:=.agg #[.bool (⟨false,0⟩:MV).c,.int .i64 (⟨false,0⟩:MV).n]) (by simp [results,Tryz.results114,go_sem,x0,x1]) rfl ⟨rfl,_,_,_,iK,jB⟩
theorem Beside.other {mb k s:Nat} {w w':World} {nv cv rv:Value} {o:Obj} (h:Beside mb k w nv cv rv o) (hb:Below s w w') (hk:k < s):Beside mb k w' nv cv rv o:=⟨by rw [hb.block k hk];exact h.b,h.ne,h.n,h.c,h.r⟩
theorem Bn (mb B:Nat) (tn aO:Value) (fuel:Nat) (ns:List NR) (op:List Int) (n:NR) (gI:-1<=n.p1/\n.p1<=9000) (ca cb cc:Nat) (fa fb fc:MM->MV × MM) (ha:gB mb B tn aO fuel ns op n.p0 ca fa) (hb:gB mb B tn aO fuel ns op n.p1 cb fb) (hcc:cc<=20000) (hc:gB mb B tn aO fuel ns op n.p2 cc fc)
  (w:World) (nv cv rv:Value) (m:MM) (h:ja mb B w tn aO fuel nv cv rv m ns op (ca+(cb+cc))) :
  Calls Tryz.prog 115 #[ptr mb,aI n] w (fY mb w tn aO fuel nv cv rv (cD n.p1 fc (fa m).1.n.toNat (fb (fa m).2).1 (fb (fa m).2).2)):=by
 obtain ⟨N,hN⟩:∃ N:Obj,N=.cells #[.int .i64 n.form,.int .i64 n.at_,.int .i64 n.aR,.int .i64 n.num,.string (bs n.word),.int .i64 n.region,.int .i64 n.source,.int .i64 n.p0,.int .i64 n.p1,.int .i64 n.p2] 108:=⟨_,rfl⟩
 obtain ⟨R,hR⟩:∃ R:Obj,R=.cells #[.bool false,.int .i64 0] 122:=⟨_,rfl⟩
 obtain ⟨W1,hE⟩:∃ W1,W1=(w.alloc N).alloc R:=⟨_,rfl⟩
 have hW1:Below w.heap.size w W1:=by rw [hE];exact aE (aE (Below.refl _ _) _) _
 have h1:=h.below hW1
 have pj:Beside mb w.heap.size W1 nv cv rv (bU n):=Beside.new h.i (by rw [hE,hN];exact aN _ (aj w _)) (Nat.le_refl _)
 have kX:Beside mb (w.heap.size+1) W1 nv cv rv (.cells #[.bool false,.int .i64 0] 122):=Beside.new h.i (by rw [hE,hR];have:=aj (w.alloc N) (.cells #[.bool false,.int .i64 0] 122);simpa using this) (by omega)
 have dV:Hid (bz mb mb w W1 nv cv rv nv cv rv):=bz.below mb mb nv cv rv hW1
 have H1:Hid _:=h1
 have lF:Hid _:=pj
 have jR:Hid _:=kX
 have fV:w.heap.size<=w.heap.size+1:=by omega
 have eW:=ha W1 nv cv rv m (h1.less (by omega))
 have HA:Hid _:=eW.2
 have HK:Hid _:=eW.1
 obtain ⟨res,hres⟩:∃ res,res=cD n.p1 fc (fa m).1.n.toNat (fb (fa m).2).1 (fb (fa m).2).2:=⟨_,rfl⟩
 rw [<- hres]
 have jc:Hid _:=hres
 clear hres
 clear eW ha hW1 h1 pj kX h
 unfold ptr at HA
 unfold ptr aI
 go_enter Tryz.func115,Tryz.ntmps115
 subst hN
 subst hR
 go_wp2_with fail
 rw [<- hE]
 refine Calls.mono HA.out ?_
 rintro _ w2 ⟨rfl,cz,lJ,j0,hf2,qW⟩
 have dC:=lF.out.keep hf2
 have fX:=jR.out.keep hf2
 have h2:=H1.out.on (c':=(cb+cc)) hf2 qW HK.out.1 HK.out.2.2.inner (by omega)
 have jb:=HK.out.2.1
 have cx:Hid _:=dV.out.trans hf2
 clear hE hf2 qW lF jR H1 dV HA HK
 generalize fa m=x at *
 generalize w.heap.size+1=q at *
 obtain ⟨W3,iv⟩:∃ W3,W3=w2.alloc (.cells #[.bool x.1.c,.int .i64 x.1.n] 122):=⟨_,rfl⟩
 have hW3:Below w2.heap.size w2 W3:=by rw [iv];exact aE (Below.refl _ _) _
 have h3:=h2.below hW3
 have hf3:bz mb mb w2 W3 cz lJ j0 cz lJ j0:=bz.below mb mb cz lJ j0 hW3
 have nM:Beside mb w2.heap.size W3 cz lJ j0 (.cells #[.bool x.1.c,.int .i64 x.1.n] 122):=Beside.new h2.i (by rw [iv];exact aj w2 _) (Nat.le_refl _)
 have dK:Hid _:=cx.out.trans hf3
 have oF:Hid _:=dC.keep hf3
 have eI:Hid _:=fX.keep hf3
 have oG:Hid _:=nM
 have qZ:Hid _:=jb
 have H3:Hid _:=h3
 obtain ⟨c0,_,_,_,_,c5,_,c7,c8,c9⟩:=aC dC.b
 have zz:=af dC.b
 have hkb:=hb W3 cz lJ j0 x.2 (h3.less (by omega))
 have u9:Hid _:=hkb.2
 have nQ:Hid _:=hkb.1
 have HLW:Hid (w.heap.size < w2.heap.size/\q < w2.heap.size):=⟨af dC.b,af fX.b⟩
 have TC:Hid (B<=w2.heap.size):=h2.env.s
 clear h3 hf3 cx hW3 h2 dC fX jb hkb hb nM
 unfold ptr at u9
 unfold lG
 go_wp2_with fail
 rw [<- iv]
 refine Calls.mono u9.out ?_
 rintro _ w4 ⟨rfl,gK,Af,zF,dc,hi4⟩
 have mH:=oF.out.keep dc
 have rf:=eI.out.keep dc
 have tP:=oG.out.keep dc
 have h4:=H3.out.on (c':=cc) dc hi4 nQ.out.1 nQ.out.2.2.inner (by omega)
 have JO:=nQ.out.2.1
 have jG:Hid _:=dK.out.trans dc
 clear iv dc hi4 oF eI oG H3 dK u9 nQ c0 c5 c7 c8 c9 zz
 generalize fb x.2=y at *
 obtain ⟨W5,uK⟩:∃ W5,W5=w4.alloc (.cells #[.bool y.1.c,.int .i64 y.1.n] 122):=⟨_,rfl⟩
 have wQ:Below w4.heap.size w4 W5:=by rw [uK];exact aE (Below.refl _ _) _
 have h5:=h4.below wQ
 have eG:bz mb mb w4 W5 gK Af zF gK Af zF:=bz.below mb mb gK Af zF wQ
 have oH:=rf.keep eG
 obtain ⟨Uv,Uw⟩:=xb tP.b
 obtain ⟨d0,_,_,_,_,d5,_,d7,d8,d9⟩:=aC mH.b
 have FL:=af mH.b
 have JP:=af tP.b
 have zG:=mH.keep eG
 have JQ:=tP.keep eG
 have X3:Beside mb w4.heap.size W5 gK Af zF (.cells #[.bool y.1.c,.int .i64 y.1.n] 122):=Beside.new h4.i (by rw [uK];exact aj w4 _) (Nat.le_refl _)
 have hqp:q < w4.heap.size:=af rf.b
 have hpl:w2.heap.size < w4.heap.size:=JP
 have hNl:w.heap.size < w4.heap.size:=FL
 have hN2:w.heap.size < w2.heap.size:=HLW.out.1
 have O9:q < w2.heap.size:=HLW.out.2
 have X0:=qZ.out
 unfold MV.bd at X0
 have abM:-30000<=x.1.n/\x.1.n<=30000:=X0
 have HC:Hid _:=hc
 have TM:Hid _:=gI
 have H5:Hid _:=h5
 have fS:Hid _:=jG.out.trans eG
 have X4:Hid _:=zG
 have X5:Hid _:=JQ
 have X6:Hid _:=X3
 have dq:Hid _:=oH
 have X7:Hid _:=JO
 unfold lG
 go_upto_region 3 with fail
 rw [<- uK]
 clear zG JQ X3 oH h5 h4 eG jG uK wQ mH tP rf Uv Uw d0 d5 d7 d8 d9 FL JP qZ JO hc gI X0 HLW
 generalize w2.heap.size=p at *
 generalize w4.heap.size=s at *
 obtain ⟨T,hT⟩:∃ T,T=x.1.n.toNat:=⟨_,rfl⟩
 rw [<- hT] at jc
 go_wp2_with fail
 go_loopw [7] (fun i wr=>∃ (j:Nat) (v:MV) (mj:MM) (Pk Pl Pn:Value),j<=T/\i=.int .i64 j/\Beside mb w.heap.size wr Pk Pl Pn (bU n)/\Beside mb q wr Pk Pl Pn (.cells #[.bool false,.int .i64 0] 122)/\Beside mb p wr Pk Pl Pn (.cells #[.bool x.1.c,.int .i64 x.1.n] 122)/\Beside mb s wr Pk Pl Pn (.cells #[.bool v.c,.int .i64 v.n] 122) /\
   bz mb mb w wr nv cv rv Pk Pl Pn/\v.bd/\ja mb B wr tn aO fuel Pk Pl Pn mj ns op (if mj.fault=0 then cc else 0)/\res=cD n.p1 fc (T - j) v mj) (fun i _=>T - (intOf i).toNat)
 case atStart =>
  refine ⟨0,y.1,y.2,gK,Af,zF,Nat.zero_le _,rfl,X4.out,dq.out,X5.out,X6.out,fS.out,X7.out,H5.out.less ?_,by rw [jc.out,Nat.sub_zero]⟩
  split <;> omega
 case round =>
  obtain ⟨j,v,mj,Pk,Pl,Pn,hj,rfl,pj,kX,Z1,Z2,hf,hv,hst,hr⟩:=hrel
  have lF:Hid _:=pj
  have jR:Hid _:=kX
  have HSX:Hid _:=Z1
  have HSV:Hid _:=Z2
  have HF:Hid _:=hf
  have HV:Hid _:=hv
  have jf:Hid _:=hst
  have HR:Hid _:=hr
  obtain ⟨Uv,Uw⟩:=xb Z1.b
  obtain ⟨vc0,vc1⟩:=xb Z2.b
  obtain ⟨_,_,y4,_⟩:=bw hst.i.y
  obtain ⟨_,_,_,_,_,_,_,d7,d8,d9⟩:=aC pj.b
  have l1:=af pj.b
  have l2:=af Z1.b
  have l3:=af Z2.b
  have l4:=af hst.i.y
  clear pj kX Z1 Z2 hf hv hst hr jc X4 dq X5 X6 fS X7 H5
  by_cases hex:j < T/\mj.fault=0
  ·obtain ⟨hjT,hfz⟩:=hex
   have hjx:(j:Int) < x.1.n:=by omega
   rw [hfz] at y4
   have MB:ja mb B wr tn aO fuel Pk Pl Pn mj ns op cc:=by have:=jf.out;rw [if_pos hfz] at this;exact this
   have bt:=Df mb wr tn aO fuel Pk Pl Pn mj n.p1 v (by have:=TM.out;omega) (by rw [MB.nl];exact MB.env.len) MB.i
   have yT:Hid _:=bt
   have Uy:Hid _:=MB
   have HFZ:Hid _:=hfz
   clear bt MB jf
   unfold ptr lG at yT
   go_wp2_with fail
   refine Calls.mono yT.out ?_
   rintro _ w6 ⟨rfl,xd,Ph⟩
   have h6:=Uy.out.on (c':=cc) xd Ph (MM.vL Uy.out.bd n.p1 v HV.out) (mX mj n.p1 v) (by omega)
   have hkc:=HC.out w6 Pk Pl Pn _ h6
   have Wh:Hid _:=hkc.2
   have tI:Hid _:=hkc.1
   have H6:Hid _:=h6
   have Wi:Hid _:=HF.out.trans xd
   have Qu:=lF.out.keep xd
   have X8:Hid _:=Qu
   have Dp:Hid _:=jR.out.keep xd
   have X9:Hid _:=HSX.out.keep xd
   have Ya:Hid _:=HSV.out.keep xd
   obtain ⟨_,_,_,_,_,_,_,e7,e8,e9⟩:=aC Qu.b
   have k1:=af Qu.b
   clear xd Ph h6 hkc Qu yT lF jR HSX HSV HF Uy d7 d8 d9 Uv Uw vc0 vc1 y4 l1 l2 l3 l4
   unfold ptr at Wh
   go_wp2_with fail
   refine Calls.mono Wh.out ?_
   rintro _ w7 ⟨rfl,Yb,cv7,rv7,iK,jB⟩
   have JR:=Ya.out.keep iK
   have aaB:Hid _:=X8.out.keep iK
   have aaC:Hid _:=Dp.out.keep iK
   have aaD:Hid _:=X9.out.keep iK
   have aaE:Hid _:=JR
   have HF7:Hid _:=Wi.out.trans iK
   have HI7:Hid _:=jB
   have aaF:Hid _:=iK
   obtain ⟨vd0,vd1⟩:=xb JR.b
   have u0:w7.frozen? ⟨s,0,none⟩=false:=ag JR.b 0
   have u1:w7.frozen? ⟨s,1,none⟩=false:=ag JR.b 1
   have k2:=af JR.b
   clear iK jB JR X8 Dp X9 Ya Wi Wh e7 e8 e9 k1
   generalize hz:fc (mj.name n.p1 v)=z at *
   unfold lG
   go_wp2
   go_roundw
   case rel =>
    have EX:=aaE.out
    have xe:=H6.out.on (c':=0) aaF.out HI7.out tI.out.1 tI.out.2.2.inner (by omega)
    have Yc:Below s w7 ((w7.setCell ⟨s,0,none⟩ (.bool z.1.c)).setCell ⟨s,1,none⟩ (.int .i64 z.1.n)):=aw (aw (Below.refl _ _) ⟨s,0,none⟩ (Nat.le_refl _) _) ⟨s,1,none⟩ (Nat.le_refl _) _
    have hi8:=(HI7.out.beside EX.ne EX.n EX.c EX.r 0 (.bool z.1.c)).beside EX.ne EX.n EX.c EX.r 1 (.int .i64 z.1.n)
    have hB:=xe.env.b
    have hs8:w.heap.size<=s:=by omega
    refine ⟨j+1,z.1,z.2,Yb,cv7,rv7,hjT,by go_num,aaB.out.other Yc hNl,aaC.out.other Yc hqp,aaD.out.other Yc hpl,⟨ay (ay EX.b 0 _) 1 _,EX.ne,EX.n,EX.c,EX.r⟩,HF7.out.upto (Yc.mono hs8),tI.out.2.1,?_,?_⟩
    ·have MD:=tI.out.2.2.op
     have yU:=H6.out.ob
     have hrl:=H6.out.rl
     have JS:=tI.out.2.2.st
     have hrg:=tI.out.2.2.rg
     have Su:=tI.out.1.steps
     refine ⟨hi8,tI.out.1,⟨xe.env.b,by have:=xe.env.s;simp only [World.setCell,Array.size_modify];omega,xe.env.n,xe.env.c,xe.env.r,fun w' hw'=>xe.env.tree w' ((Yc.mono (by have:=TC.out;omega)).trans hw'),xe.env.len⟩,xe.r1,?_,?_,xe.nl,xe.fu⟩
     ·split <;> omega
     ·split
      ·rename_i h0
       rw [if_pos h0] at MD
       omega
      ·rename_i h0
       rw [if_neg h0] at MD
       omega
    ·rw [HR.out,show T - j=(T - (j+1))+1 from by omega]
     simp only [cD]
     rw [if_neg (by simp [HFZ.out]),hz]
   case measure=>simp [intOf];omega
  ·have Uz:res=(v,mj):=by
    rw [HR.out]
    by_cases hjT:j < T
    ·have hfz:mj.fault≠0:=fun e=>hex ⟨hjT,e⟩
     rw [show T - j=(T - (j+1))+1 from by omega]
     simp only [cD]
     rw [if_pos hfz]
    ·rw [show T - j=0 from by omega];rfl
   subst Uz
   have Qa:=jR.out
   have x0:wr.cell? ⟨q,0,none⟩=some (.bool false):=by rw [aa Qa.b];rfl
   have x1:wr.cell? ⟨q,1,none⟩=some (.int .i64 0):=by rw [aa Qa.b];rfl
   have g0:wr.frozen? ⟨q,0,none⟩=false:=ag Qa.b 0
   have g1:wr.frozen? ⟨q,1,none⟩=false:=ag Qa.b 1
   have Bl:=af Qa.b
   clear Qa HR
   by_cases hjx:(j:Int) < x.1.n
   ·have hfz:mj.fault≠0:=fun e=>hex ⟨by omega,e⟩
    have hfb:((mj.fault:Int) == 0)=false:=uG hfz
    clear hex hfz
    go_wp2
    have aV:=jR.out
    have jB:=(jf.out.i.beside aV.ne aV.n aV.c aV.r 0 (.bool v.c)).beside aV.ne aV.n aV.c aV.r 1 (.int .i64 v.n)
    have iK:=(HF.out.upto (aw (aw (Below.refl _ _) ⟨q,0,none⟩ fV (.bool v.c)) ⟨q,1,none⟩ fV (.int .i64 v.n)))
    refine bodyPost_ret (v:=.agg #[.bool v.c,.int .i64 v.n]) (by simp [results,Tryz.results115,go_sem,x0,x1]) rfl ⟨rfl,_,_,_,iK,jB⟩
   ·clear hex
    go_wp2
    have aV:=jR.out
    have jB:=(jf.out.i.beside aV.ne aV.n aV.c aV.r 0 (.bool v.c)).beside aV.ne aV.n aV.c aV.r 1 (.int .i64 v.n)
    have iK:=(HF.out.upto (aw (aw (Below.refl _ _) ⟨q,0,none⟩ fV (.bool v.c)) ⟨q,1,none⟩ fV (.int .i64 v.n)))
    refine bodyPost_ret (v:=.agg #[.bool v.c,.int .i64 v.n]) (by simp [results,Tryz.results115,go_sem,x0,x1]) rfl ⟨rfl,_,_,_,iK,jB⟩
end Go.Proofs.YtpicaknklgccoabGreatDoor
