import Derived.Test.YtpicaknklgccoabGreatDoorS22
set_option maxHeartbeats 4000000
set_option maxRecDepth 100000
namespace Go.Proofs.YtpicaknklgccoabGreatDoor
open Go.RowKit
theorem pz (m:MM):(m.stop 12).fault≠0:=by unfold MM.stop;split <;> simp_all
theorem nf (k:Nat) (fn:FuncId) (mb B:Nat) (tn aO:Value) (fuel:Nat) (ns:List NR) (op:List Int) (n:NR) (hform:n.form=k) (Fj:(k=3/\fn=110)\/(k=4/\fn=111)\/(k=5/\fn=112)\/(k=6/\fn=112)\/(k=7/\fn=113)\/(k=8/\fn=114)\/(k=9/\fn=114)\/(k=10/\fn=114)\/(k=11/\fn=115)) (c:Nat) (g:MM->MV × MM) (hg:∀ (w:World) (nv cv rv:Value) (m:MM),ja mb B w tn aO fuel nv cv rv m ns op c->Calls Tryz.prog fn #[ptr mb,aI n] w (fY mb w tn aO fuel nv cv rv (g m)))
  (w:World) (nv cv rv:Value) (m:MM) (h:ja mb B w tn aO fuel nv cv rv m ns op (c)) :
  Calls Tryz.prog 89 #[ptr mb,aI n] w (fY mb w tn aO fuel nv cv rv (ba fuel m (g))):=by
 obtain ⟨N,hN⟩:∃ N:Obj,N=.cells #[.int .i64 n.form,.int .i64 n.at_,.int .i64 n.aR,.int .i64 n.num,.string (bs n.word),.int .i64 n.region,.int .i64 n.source,.int .i64 n.p0,.int .i64 n.p1,.int .i64 n.p2] 108:=⟨_,rfl⟩
 obtain ⟨R,hR⟩:∃ R:Obj,R=.cells #[.bool false,.int .i64 0] 122:=⟨_,rfl⟩
 obtain ⟨W1,hE⟩:∃ W1,W1=(w.alloc N).alloc R:=⟨_,rfl⟩
 have hW1:Below w.heap.size w W1:=by rw [hE];exact aE (aE (Below.refl _ _) _) _
 have h1:=h.below hW1
 have pj:Beside mb w.heap.size W1 nv cv rv (bU n):=Beside.new h.i (by rw [hE,hN];exact aN _ (aj w _)) (Nat.le_refl _)
 have kX:Beside mb (w.heap.size+1) W1 nv cv rv (.cells #[.bool false,.int .i64 0] 122):=Beside.new h.i (by rw [hE,hR];have:=aj (w.alloc N) (.cells #[.bool false,.int .i64 0] 122);simpa using this) (by omega)
 have dV:Hid (bz mb mb w W1 nv cv rv nv cv rv):=bz.below mb mb nv cv rv hW1
 have H1:Hid _:=h1
 have lF:Hid _:=pj
 have jR:Hid _:=kX
 have fV:w.heap.size<=w.heap.size+1:=by omega
 obtain ⟨res,hres⟩:∃ res,res=ba fuel m (g):=⟨_,rfl⟩
 rw [<- hres]
 have jc:Hid _:=hres
 obtain ⟨y2,y3,_⟩:=bw h1.i.y
 have nR:=af h1.i.y
 have uL:Hid _:=hform
 clear hres hW1 h1 pj kX h hform
 unfold ptr aI
 go_enter Tryz.func89,Tryz.ntmps89
 subst hN
 subst hR
 go_upto_region 1 with fail
 rw [<- hE]
 clear hE
 generalize w.heap.size+1=q at *
 go_quiet (fail)
 rename_i nq
 obtain ⟨W2,uJ⟩:∃ W2,W2=W1.drewN nq:=⟨_,rfl⟩
 have hbl:Below W1.heap.size W1 W2:=by rw [uJ];exact iJ (Below.refl _ _)
 rw [<- uJ]
 have hf2:bz mb mb W1 W2 nv cv rv nv cv rv:=bz.below mb mb nv cv rv hbl
 have h2:=H1.out.below hbl
 have dC:=lF.out.keep hf2
 have fX:=jR.out.keep hf2
 have cx:Hid _:=dV.out.trans hf2
 clear uJ hbl hf2 H1 lF jR dV y2 y3 nR
 obtain ⟨y2,y3,y4,_⟩:=bw h2.i.y
 have f3:W2.frozen? ⟨mb,3,none⟩=false:=ag h2.i.y 3
 have nR:=af h2.i.y
 have JS:=h2.bd.steps
 have mG:=h2.fu
 have H2:Hid _:=h2
 have kS:Hid _:=dC
 have kY:Hid _:=fX
 obtain ⟨c0,c1,c2,c3,c4,c5,c6,c7,c8,c9⟩:=aC dC.b
 have il:=af dC.b
 clear h2 dC fX
 by_cases hq:fuel<=m.steps
 ·have hr:res=(v0,m.stop 12):=by
   rw [jc.out];unfold ba
   simp only [if_pos hq]
   rw [if_pos (pz m)]
  clear jc
  subst hr
  have hst:=sG mb W2 tn aO fuel nv cv rv m 12 H2.out.i
  have jf:Hid _:=hst
  clear hst
  unfold ptr at jf
  go_wp2_with fail
  refine Calls.mono jf.out ?_
  rintro _ w3 ⟨rfl,hf3,rW⟩
  have fS:Hid _:=cx.out.trans hf3
  have iZ:Hid _:=rW
  have aG:=kY.out.keep hf3
  have dq:Hid _:=aG
  have x0:w3.cell? ⟨q,0,none⟩=some (.bool false):=by rw [aa aG.b];rfl
  have x1:w3.cell? ⟨q,1,none⟩=some (.int .i64 0):=by rw [aa aG.b];rfl
  have g0:w3.frozen? ⟨q,0,none⟩=false:=ag aG.b 0
  have g1:w3.frozen? ⟨q,1,none⟩=false:=ag aG.b 1
  have Bl:=af aG.b
  have z4:=(bw rW.y).2.2.1
  have hne:((m.stop 12).fault:Int) != 0:=by have:=pz m;simpa using this
  have Qs:=af rW.y
  clear hf3 rW aG jf cx kY kS H2 y2 y3 y4 f3 c0 c1 c2 c3 c4 c5 c6 c7 c8 c9
  unfold v0
  go_wp2
  have aV:=dq.out
  have jB:=(iZ.out.beside aV.ne aV.n aV.c aV.r 0 (.bool (⟨false,0⟩:MV).c)).beside aV.ne aV.n aV.c aV.r 1 (.int .i64 (⟨false,0⟩:MV).n)
  have iK:=(fS.out.upto (aw (aw (Below.refl _ _) ⟨q,0,none⟩ fV (.bool (⟨false,0⟩:MV).c)) ⟨q,1,none⟩ fV (.int .i64 (⟨false,0⟩:MV).n)))
  refine bodyPost_ret (v:=.agg #[.bool (⟨false,0⟩:MV).c,.int .i64 (⟨false,0⟩:MV).n]) (by simp [results,Tryz.results89,go_sem,x0,x1]) rfl ⟨rfl,_,_,_,iK,jB⟩
 ·by_cases hz:m.fault=0
  ·have hr:res=(g) { m with steps:=m.steps+1 }:=by
    rw [jc.out];unfold ba
    simp only [if_neg hq]
    rw [if_neg (fun hn=>hn hz)]
   clear jc
   rw [hz] at y4
   have hs3:=H2.out.i.De { m with steps:=m.steps+1 } 3 (.int .i64 ((m.steps:Int)+1)) rfl rfl rfl rfl
   obtain ⟨W3,iv⟩:∃ W3,W3=W2.setCell ⟨mb,3,none⟩ (.int .i64 ((m.steps:Int)+1)):=⟨_,rfl⟩
   rw [<- iv] at hs3
   have hb3:nG fuel { m with steps:=m.steps+1 }:=⟨by simp only;omega,Nat.le_succ_of_le H2.out.bd.cells,H2.out.bd.live,H2.out.bd.sum,H2.out.bd.most,H2.out.bd.named,H2.out.bd.cell,H2.out.bd.regs,H2.out.bd.gA⟩
   have h3:ja mb B W3 tn aO fuel nv cv rv { m with steps:=m.steps+1 } ns op (c):=⟨hs3.2,hb3,H2.out.env.on hs3.1,H2.out.r1,H2.out.rl,by have:=H2.out.ob;simp only;omega,H2.out.nl,H2.out.fu⟩
   have dK:Hid _:=cx.out.trans hs3.1
   have sK:=kS.out.keep hs3.1
   have eI:Hid _:=kY.out.keep hs3.1
   have H3:Hid _:=h3
   obtain ⟨d0,d1,d2,d3,d4,d5,d6,d7,d8,d9⟩:=aC sK.b
   have Qv:=af sK.b
   clear hs3 hb3 sK h3 cx kY kS H2
   go_upto_region 6 with fail
   rw [<- iv]
   clear y2 y3 y4 f3 c0 c1 c2 c3 c4 c5 c6 c7 c8 c9 iv nR il JS mG hq hz
   have hk:=hg W3 nv cv rv _ H3.out
   rw [<- hr] at hk
   have HK:Hid _:=hk
   clear hk hr H3
   unfold ptr aI at HK
   rw [uL.out] at d0
   rcases Fj with ⟨rfl,rfl⟩ | ⟨rfl,rfl⟩ | ⟨rfl,rfl⟩ | ⟨rfl,rfl⟩ | ⟨rfl,rfl⟩ | ⟨rfl,rfl⟩ | ⟨rfl,rfl⟩ | ⟨rfl,rfl⟩ | ⟨rfl,rfl⟩
   all_goals
    go_wp2_with fail
    refine Calls.mono (by have:=HK.out;rw [uL.out] at this;exact this) ?_
    rintro _ w5 ⟨rfl,FM,cv5,rv5,eG,nS⟩
    have fS:Hid _:=dK.out.trans eG
    have iZ:Hid _:=nS
    have aG:=eI.out.keep eG
    have dq:Hid _:=aG
    have x0:w5.cell? ⟨q,0,none⟩=some (.bool false):=by rw [aa aG.b];rfl
    have x1:w5.cell? ⟨q,1,none⟩=some (.int .i64 0):=by rw [aa aG.b];rfl
    have g0:w5.frozen? ⟨q,0,none⟩=false:=ag aG.b 0
    have g1:w5.frozen? ⟨q,1,none⟩=false:=ag aG.b 1
    have Bl:=af aG.b
    clear eG nS aG HK dK eI d0 d1 d2 d3 d4 d5 d6 d7 d8 d9 Qv
    unfold lG
    go_wp2
    have aV:=dq.out
    have jB:=(iZ.out.beside aV.ne aV.n aV.c aV.r 0 (.bool res.1.c)).beside aV.ne aV.n aV.c aV.r 1 (.int .i64 res.1.n)
    have iK:=(fS.out.upto (aw (aw (Below.refl _ _) ⟨q,0,none⟩ fV (.bool res.1.c)) ⟨q,1,none⟩ fV (.int .i64 res.1.n)))
    refine bodyPost_ret (v:=.agg #[.bool res.1.c,.int .i64 res.1.n]) (by simp [results,Tryz.results89,go_sem,x0,x1]) rfl ⟨rfl,_,_,_,iK,jB⟩
  ·have hr:res=(v0,m):=by
    rw [jc.out];unfold ba
    simp only [if_neg hq]
    rw [if_pos hz]
   clear jc
   subst hr
   have hne:((m.fault:Int) != 0)=true:=by simpa using hz
   have fS:Hid _:=cx.out
   have iZ:Hid _:=H2.out.i
   have aG:=kY.out
   have dq:Hid _:=aG
   have x0:W2.cell? ⟨q,0,none⟩=some (.bool false):=by rw [aa aG.b];rfl
   have x1:W2.cell? ⟨q,1,none⟩=some (.int .i64 0):=by rw [aa aG.b];rfl
   have g0:W2.frozen? ⟨q,0,none⟩=false:=ag aG.b 0
   have g1:W2.frozen? ⟨q,1,none⟩=false:=ag aG.b 1
   have Bl:=af aG.b
   clear aG cx kY kS H2 c0 c1 c2 c3 c4 c5 c6 c7 c8 c9 hz
   unfold v0
   go_wp2
   have aV:=dq.out
   have jB:=(iZ.out.beside aV.ne aV.n aV.c aV.r 0 (.bool (⟨false,0⟩:MV).c)).beside aV.ne aV.n aV.c aV.r 1 (.int .i64 (⟨false,0⟩:MV).n)
   have iK:=(fS.out.upto (aw (aw (Below.refl _ _) ⟨q,0,none⟩ fV (.bool (⟨false,0⟩:MV).c)) ⟨q,1,none⟩ fV (.int .i64 (⟨false,0⟩:MV).n)))
   refine bodyPost_ret (v:=.agg #[.bool (⟨false,0⟩:MV).c,.int .i64 (⟨false,0⟩:MV).n]) (by simp [results,Tryz.results89,go_sem,x0,x1]) rfl ⟨rfl,_,_,_,iK,jB⟩
theorem UC (mb B:Nat) (tn aO:Value) (fuel:Nat) (ns:List NR) (op:List Int) (n:NR) (hform:n.form=3) (c:Nat) (g:MM->MV × MM) (hg:∀ (w:World) (nv cv rv:Value) (m:MM),ja mb B w tn aO fuel nv cv rv m ns op c->Calls Tryz.prog 110 #[ptr mb,aI n] w (fY mb w tn aO fuel nv cv rv (g m)))
  (w:World) (nv cv rv:Value) (m:MM) (h:ja mb B w tn aO fuel nv cv rv m ns op c) :
  Calls Tryz.prog 89 #[ptr mb,aI n] w (fY mb w tn aO fuel nv cv rv (ba fuel m g)) :=
 nf 3 _ mb B tn aO fuel ns op n hform (Or.inl ⟨rfl,rfl⟩) c g hg w nv cv rv m h
theorem UD (mb B:Nat) (tn aO:Value) (fuel:Nat) (ns:List NR) (op:List Int) (n:NR) (hform:n.form=4) (c:Nat) (g:MM->MV × MM) (hg:∀ (w:World) (nv cv rv:Value) (m:MM),ja mb B w tn aO fuel nv cv rv m ns op c->Calls Tryz.prog 111 #[ptr mb,aI n] w (fY mb w tn aO fuel nv cv rv (g m)))
  (w:World) (nv cv rv:Value) (m:MM) (h:ja mb B w tn aO fuel nv cv rv m ns op c) :
  Calls Tryz.prog 89 #[ptr mb,aI n] w (fY mb w tn aO fuel nv cv rv (ba fuel m g)) :=
 nf 4 _ mb B tn aO fuel ns op n hform (Or.inr (Or.inl ⟨rfl,rfl⟩)) c g hg w nv cv rv m h
theorem UE (mb B:Nat) (tn aO:Value) (fuel:Nat) (ns:List NR) (op:List Int) (n:NR) (hform:n.form=5) (c:Nat) (g:MM->MV × MM) (hg:∀ (w:World) (nv cv rv:Value) (m:MM),ja mb B w tn aO fuel nv cv rv m ns op c->Calls Tryz.prog 112 #[ptr mb,aI n] w (fY mb w tn aO fuel nv cv rv (g m)))
  (w:World) (nv cv rv:Value) (m:MM) (h:ja mb B w tn aO fuel nv cv rv m ns op c) :
  Calls Tryz.prog 89 #[ptr mb,aI n] w (fY mb w tn aO fuel nv cv rv (ba fuel m g)) :=
 nf 5 _ mb B tn aO fuel ns op n hform (Or.inr (Or.inr (Or.inl ⟨rfl,rfl⟩))) c g hg w nv cv rv m h
theorem UF (mb B:Nat) (tn aO:Value) (fuel:Nat) (ns:List NR) (op:List Int) (n:NR) (hform:n.form=6) (c:Nat) (g:MM->MV × MM) (hg:∀ (w:World) (nv cv rv:Value) (m:MM),ja mb B w tn aO fuel nv cv rv m ns op c->Calls Tryz.prog 112 #[ptr mb,aI n] w (fY mb w tn aO fuel nv cv rv (g m)))
  (w:World) (nv cv rv:Value) (m:MM) (h:ja mb B w tn aO fuel nv cv rv m ns op c) :
  Calls Tryz.prog 89 #[ptr mb,aI n] w (fY mb w tn aO fuel nv cv rv (ba fuel m g)) :=
 nf 6 _ mb B tn aO fuel ns op n hform (Or.inr (Or.inr (Or.inr (Or.inl ⟨rfl,rfl⟩)))) c g hg w nv cv rv m h
theorem UG (mb B:Nat) (tn aO:Value) (fuel:Nat) (ns:List NR) (op:List Int) (n:NR) (hform:n.form=7) (c:Nat) (g:MM->MV × MM) (hg:∀ (w:World) (nv cv rv:Value) (m:MM),ja mb B w tn aO fuel nv cv rv m ns op c->Calls Tryz.prog 113 #[ptr mb,aI n] w (fY mb w tn aO fuel nv cv rv (g m)))
  (w:World) (nv cv rv:Value) (m:MM) (h:ja mb B w tn aO fuel nv cv rv m ns op c) :
  Calls Tryz.prog 89 #[ptr mb,aI n] w (fY mb w tn aO fuel nv cv rv (ba fuel m g)) :=
 nf 7 _ mb B tn aO fuel ns op n hform (Or.inr (Or.inr (Or.inr (Or.inr (Or.inl ⟨rfl,rfl⟩))))) c g hg w nv cv rv m h
theorem UH (mb B:Nat) (tn aO:Value) (fuel:Nat) (ns:List NR) (op:List Int) (n:NR) (hform:n.form=8) (c:Nat) (g:MM->MV × MM) (hg:∀ (w:World) (nv cv rv:Value) (m:MM),ja mb B w tn aO fuel nv cv rv m ns op c->Calls Tryz.prog 114 #[ptr mb,aI n] w (fY mb w tn aO fuel nv cv rv (g m)))
  (w:World) (nv cv rv:Value) (m:MM) (h:ja mb B w tn aO fuel nv cv rv m ns op c) :
  Calls Tryz.prog 89 #[ptr mb,aI n] w (fY mb w tn aO fuel nv cv rv (ba fuel m g)) :=
 nf 8 _ mb B tn aO fuel ns op n hform (Or.inr (Or.inr (Or.inr (Or.inr (Or.inr (Or.inl ⟨rfl,rfl⟩)))))) c g hg w nv cv rv m h
theorem UI (mb B:Nat) (tn aO:Value) (fuel:Nat) (ns:List NR) (op:List Int) (n:NR) (hform:n.form=9) (c:Nat) (g:MM->MV × MM) (hg:∀ (w:World) (nv cv rv:Value) (m:MM),ja mb B w tn aO fuel nv cv rv m ns op c->Calls Tryz.prog 114 #[ptr mb,aI n] w (fY mb w tn aO fuel nv cv rv (g m)))
  (w:World) (nv cv rv:Value) (m:MM) (h:ja mb B w tn aO fuel nv cv rv m ns op c) :
  Calls Tryz.prog 89 #[ptr mb,aI n] w (fY mb w tn aO fuel nv cv rv (ba fuel m g)) :=
 nf 9 _ mb B tn aO fuel ns op n hform (Or.inr (Or.inr (Or.inr (Or.inr (Or.inr (Or.inr (Or.inl ⟨rfl,rfl⟩))))))) c g hg w nv cv rv m h
theorem Qw (mb B:Nat) (tn aO:Value) (fuel:Nat) (ns:List NR) (op:List Int) (n:NR) (hform:n.form=10) (c:Nat) (g:MM->MV × MM) (hg:∀ (w:World) (nv cv rv:Value) (m:MM),ja mb B w tn aO fuel nv cv rv m ns op c->Calls Tryz.prog 114 #[ptr mb,aI n] w (fY mb w tn aO fuel nv cv rv (g m)))
  (w:World) (nv cv rv:Value) (m:MM) (h:ja mb B w tn aO fuel nv cv rv m ns op c) :
  Calls Tryz.prog 89 #[ptr mb,aI n] w (fY mb w tn aO fuel nv cv rv (ba fuel m g)) :=
 nf 10 _ mb B tn aO fuel ns op n hform (Or.inr (Or.inr (Or.inr (Or.inr (Or.inr (Or.inr (Or.inr (Or.inl ⟨rfl,rfl⟩)))))))) c g hg w nv cv rv m h
theorem Qx (mb B:Nat) (tn aO:Value) (fuel:Nat) (ns:List NR) (op:List Int) (n:NR) (hform:n.form=11) (c:Nat) (g:MM->MV × MM) (hg:∀ (w:World) (nv cv rv:Value) (m:MM),ja mb B w tn aO fuel nv cv rv m ns op c->Calls Tryz.prog 115 #[ptr mb,aI n] w (fY mb w tn aO fuel nv cv rv (g m)))
  (w:World) (nv cv rv:Value) (m:MM) (h:ja mb B w tn aO fuel nv cv rv m ns op c) :
  Calls Tryz.prog 89 #[ptr mb,aI n] w (fY mb w tn aO fuel nv cv rv (ba fuel m g)) :=
 nf 11 _ mb B tn aO fuel ns op n hform (Or.inr (Or.inr (Or.inr (Or.inr (Or.inr (Or.inr (Or.inr (Or.inr (⟨rfl,rfl⟩))))))))) c g hg w nv cv rv m h
theorem UJ (mb B:Nat) (tn aO:Value) (fuel:Nat) (ns:List NR) (op:List Int) (n:NR) (hform:n.form=1) (c:Nat)
  (w:World) (nv cv rv:Value) (m:MM) (h:ja mb B w tn aO fuel nv cv rv m ns op (c)) :
  Calls Tryz.prog 89 #[ptr mb,aI n] w (fY mb w tn aO fuel nv cv rv (ba fuel m (fun m=>(⟨false,n.num⟩,m)))):=by
 obtain ⟨N,hN⟩:∃ N:Obj,N=.cells #[.int .i64 n.form,.int .i64 n.at_,.int .i64 n.aR,.int .i64 n.num,.string (bs n.word),.int .i64 n.region,.int .i64 n.source,.int .i64 n.p0,.int .i64 n.p1,.int .i64 n.p2] 108:=⟨_,rfl⟩
 obtain ⟨R,hR⟩:∃ R:Obj,R=.cells #[.bool false,.int .i64 0] 122:=⟨_,rfl⟩
 obtain ⟨W1,hE⟩:∃ W1,W1=(w.alloc N).alloc R:=⟨_,rfl⟩
 have hW1:Below w.heap.size w W1:=by rw [hE];exact aE (aE (Below.refl _ _) _) _
 have h1:=h.below hW1
 have pj:Beside mb w.heap.size W1 nv cv rv (bU n):=Beside.new h.i (by rw [hE,hN];exact aN _ (aj w _)) (Nat.le_refl _)
 have kX:Beside mb (w.heap.size+1) W1 nv cv rv (.cells #[.bool false,.int .i64 0] 122):=Beside.new h.i (by rw [hE,hR];have:=aj (w.alloc N) (.cells #[.bool false,.int .i64 0] 122);simpa using this) (by omega)
 have dV:Hid (bz mb mb w W1 nv cv rv nv cv rv):=bz.below mb mb nv cv rv hW1
 have H1:Hid _:=h1
 have lF:Hid _:=pj
 have jR:Hid _:=kX
 have fV:w.heap.size<=w.heap.size+1:=by omega
 obtain ⟨res,hres⟩:∃ res,res=ba fuel m (fun m=>(⟨false,n.num⟩,m)):=⟨_,rfl⟩
 rw [<- hres]
 have jc:Hid _:=hres
 obtain ⟨y2,y3,_⟩:=bw h1.i.y
 have nR:=af h1.i.y
 have uL:Hid _:=hform
 clear hres hW1 h1 pj kX h hform
 unfold ptr aI
 go_enter Tryz.func89,Tryz.ntmps89
 subst hN
 subst hR
 go_upto_region 1 with fail
 rw [<- hE]
 clear hE
 generalize w.heap.size+1=q at *
 go_quiet (fail)
 rename_i nq
 obtain ⟨W2,uJ⟩:∃ W2,W2=W1.drewN nq:=⟨_,rfl⟩
 have hbl:Below W1.heap.size W1 W2:=by rw [uJ];exact iJ (Below.refl _ _)
 rw [<- uJ]
 have hf2:bz mb mb W1 W2 nv cv rv nv cv rv:=bz.below mb mb nv cv rv hbl
 have h2:=H1.out.below hbl
 have dC:=lF.out.keep hf2
 have fX:=jR.out.keep hf2
 have cx:Hid _:=dV.out.trans hf2
 clear uJ hbl hf2 H1 lF jR dV y2 y3 nR
 obtain ⟨y2,y3,y4,_⟩:=bw h2.i.y
 have f3:W2.frozen? ⟨mb,3,none⟩=false:=ag h2.i.y 3
 have nR:=af h2.i.y
 have JS:=h2.bd.steps
 have mG:=h2.fu
 have H2:Hid _:=h2
 have kS:Hid _:=dC
 have kY:Hid _:=fX
 obtain ⟨c0,c1,c2,c3,c4,c5,c6,c7,c8,c9⟩:=aC dC.b
 have il:=af dC.b
 clear h2 dC fX
 by_cases hq:fuel<=m.steps
 ·have hr:res=(v0,m.stop 12):=by
   rw [jc.out];unfold ba
   simp only [if_pos hq]
   rw [if_pos (pz m)]
  clear jc
  subst hr
  have hst:=sG mb W2 tn aO fuel nv cv rv m 12 H2.out.i
  have jf:Hid _:=hst
  clear hst
  unfold ptr at jf
  go_wp2_with fail
  refine Calls.mono jf.out ?_
  rintro _ w3 ⟨rfl,hf3,rW⟩
  have fS:Hid _:=cx.out.trans hf3
  have iZ:Hid _:=rW
  have aG:=kY.out.keep hf3
  have dq:Hid _:=aG
  have x0:w3.cell? ⟨q,0,none⟩=some (.bool false):=by rw [aa aG.b];rfl
  have x1:w3.cell? ⟨q,1,none⟩=some (.int .i64 0):=by rw [aa aG.b];rfl
  have g0:w3.frozen? ⟨q,0,none⟩=false:=ag aG.b 0
  have g1:w3.frozen? ⟨q,1,none⟩=false:=ag aG.b 1
  have Bl:=af aG.b
  have z4:=(bw rW.y).2.2.1
  have hne:((m.stop 12).fault:Int) != 0:=by have:=pz m;simpa using this
  have Qs:=af rW.y
  clear hf3 rW aG jf cx kY kS H2 y2 y3 y4 f3 c0 c1 c2 c3 c4 c5 c6 c7 c8 c9
  unfold v0
  go_wp2
  have aV:=dq.out
  have jB:=(iZ.out.beside aV.ne aV.n aV.c aV.r 0 (.bool (⟨false,0⟩:MV).c)).beside aV.ne aV.n aV.c aV.r 1 (.int .i64 (⟨false,0⟩:MV).n)
  have iK:=(fS.out.upto (aw (aw (Below.refl _ _) ⟨q,0,none⟩ fV (.bool (⟨false,0⟩:MV).c)) ⟨q,1,none⟩ fV (.int .i64 (⟨false,0⟩:MV).n)))
  refine bodyPost_ret (v:=.agg #[.bool (⟨false,0⟩:MV).c,.int .i64 (⟨false,0⟩:MV).n]) (by simp [results,Tryz.results89,go_sem,x0,x1]) rfl ⟨rfl,_,_,_,iK,jB⟩
 ·by_cases hz:m.fault=0
  ·have hr:res=(fun m=>(⟨false,n.num⟩,m)) { m with steps:=m.steps+1 }:=by
    rw [jc.out];unfold ba
    simp only [if_neg hq]
    rw [if_neg (fun hn=>hn hz)]
   clear jc
   rw [hz] at y4
   have hs3:=H2.out.i.De { m with steps:=m.steps+1 } 3 (.int .i64 ((m.steps:Int)+1)) rfl rfl rfl rfl
   obtain ⟨W3,iv⟩:∃ W3,W3=W2.setCell ⟨mb,3,none⟩ (.int .i64 ((m.steps:Int)+1)):=⟨_,rfl⟩
   rw [<- iv] at hs3
   have hb3:nG fuel { m with steps:=m.steps+1 }:=⟨by simp only;omega,Nat.le_succ_of_le H2.out.bd.cells,H2.out.bd.live,H2.out.bd.sum,H2.out.bd.most,H2.out.bd.named,H2.out.bd.cell,H2.out.bd.regs,H2.out.bd.gA⟩
   have h3:ja mb B W3 tn aO fuel nv cv rv { m with steps:=m.steps+1 } ns op (c):=⟨hs3.2,hb3,H2.out.env.on hs3.1,H2.out.r1,H2.out.rl,by have:=H2.out.ob;simp only;omega,H2.out.nl,H2.out.fu⟩
   have dK:Hid _:=cx.out.trans hs3.1
   have sK:=kS.out.keep hs3.1
   have eI:Hid _:=kY.out.keep hs3.1
   have H3:Hid _:=h3
   obtain ⟨d0,d1,d2,d3,d4,d5,d6,d7,d8,d9⟩:=aC sK.b
   have Qv:=af sK.b
   clear hs3 hb3 sK h3 cx kY kS H2
   go_upto_region 6 with fail
   rw [<- iv]
   clear y2 y3 y4 f3 c0 c1 c2 c3 c4 c5 c6 c7 c8 c9 iv nR il JS mG hq hz
   rw [uL.out] at d0
   subst hr
   have fS:Hid _:=dK.out
   have iZ:Hid _:=H3.out.i
   have aG:=eI.out
   have dq:Hid _:=aG
   have x0:W3.cell? ⟨q,0,none⟩=some (.bool false):=by rw [aa aG.b];rfl
   have x1:W3.cell? ⟨q,1,none⟩=some (.int .i64 0):=by rw [aa aG.b];rfl
   have g0:W3.frozen? ⟨q,0,none⟩=false:=ag aG.b 0
   have g1:W3.frozen? ⟨q,1,none⟩=false:=ag aG.b 1
   have Bl:=af aG.b
   clear aG dK eI H3
   go_wp2
   have aV:=dq.out
   have jB:=(iZ.out.beside aV.ne aV.n aV.c aV.r 0 (.bool (⟨false,n.num⟩:MV).c)).beside aV.ne aV.n aV.c aV.r 1 (.int .i64 (⟨false,n.num⟩:MV).n)
   have iK:=(fS.out.upto (aw (aw (Below.refl _ _) ⟨q,0,none⟩ fV (.bool (⟨false,n.num⟩:MV).c)) ⟨q,1,none⟩ fV (.int .i64 (⟨false,n.num⟩:MV).n)))
   refine bodyPost_ret (v:=.agg #[.bool (⟨false,n.num⟩:MV).c,.int .i64 (⟨false,n.num⟩:MV).n]) (by simp [results,Tryz.results89,go_sem,x0,x1]) rfl ⟨rfl,_,_,_,iK,jB⟩
  ·have hr:res=(v0,m):=by
    rw [jc.out];unfold ba
    simp only [if_neg hq]
    rw [if_pos hz]
   clear jc
   subst hr
   have hne:((m.fault:Int) != 0)=true:=by simpa using hz
   have fS:Hid _:=cx.out
   have iZ:Hid _:=H2.out.i
   have aG:=kY.out
   have dq:Hid _:=aG
   have x0:W2.cell? ⟨q,0,none⟩=some (.bool false):=by rw [aa aG.b];rfl
   have x1:W2.cell? ⟨q,1,none⟩=some (.int .i64 0):=by rw [aa aG.b];rfl
   have g0:W2.frozen? ⟨q,0,none⟩=false:=ag aG.b 0
   have g1:W2.frozen? ⟨q,1,none⟩=false:=ag aG.b 1
   have Bl:=af aG.b
   clear aG cx kY kS H2 c0 c1 c2 c3 c4 c5 c6 c7 c8 c9 hz
   unfold v0
   go_wp2
   have aV:=dq.out
   have jB:=(iZ.out.beside aV.ne aV.n aV.c aV.r 0 (.bool (⟨false,0⟩:MV).c)).beside aV.ne aV.n aV.c aV.r 1 (.int .i64 (⟨false,0⟩:MV).n)
   have iK:=(fS.out.upto (aw (aw (Below.refl _ _) ⟨q,0,none⟩ fV (.bool (⟨false,0⟩:MV).c)) ⟨q,1,none⟩ fV (.int .i64 (⟨false,0⟩:MV).n)))
   refine bodyPost_ret (v:=.agg #[.bool (⟨false,0⟩:MV).c,.int .i64 (⟨false,0⟩:MV).n]) (by simp [results,Tryz.results89,go_sem,x0,x1]) rfl ⟨rfl,_,_,_,iK,jB⟩
theorem UK (mb B:Nat) (tn aO:Value) (fuel:Nat) (ns:List NR) (op:List Int) (n:NR) (hform:n.form=2) (c:Nat) (hsrc:-1<=n.source/\n.source<=9000)
  (w:World) (nv cv rv:Value) (m:MM) (h:ja mb B w tn aO fuel nv cv rv m ns op (c)) :
  Calls Tryz.prog 89 #[ptr mb,aI n] w (fY mb w tn aO fuel nv cv rv (ba fuel m (fun m=>(m.look n.source,m)))):=by
 obtain ⟨N,hN⟩:∃ N:Obj,N=.cells #[.int .i64 n.form,.int .i64 n.at_,.int .i64 n.aR,.int .i64 n.num,.string (bs n.word),.int .i64 n.region,.int .i64 n.source,.int .i64 n.p0,.int .i64 n.p1,.int .i64 n.p2] 108:=⟨_,rfl⟩
 obtain ⟨R,hR⟩:∃ R:Obj,R=.cells #[.bool false,.int .i64 0] 122:=⟨_,rfl⟩
 obtain ⟨W1,hE⟩:∃ W1,W1=(w.alloc N).alloc R:=⟨_,rfl⟩
 have hW1:Below w.heap.size w W1:=by rw [hE];exact aE (aE (Below.refl _ _) _) _
 have h1:=h.below hW1
 have pj:Beside mb w.heap.size W1 nv cv rv (bU n):=Beside.new h.i (by rw [hE,hN];exact aN _ (aj w _)) (Nat.le_refl _)
 have kX:Beside mb (w.heap.size+1) W1 nv cv rv (.cells #[.bool false,.int .i64 0] 122):=Beside.new h.i (by rw [hE,hR];have:=aj (w.alloc N) (.cells #[.bool false,.int .i64 0] 122);simpa using this) (by omega)
 have dV:Hid (bz mb mb w W1 nv cv rv nv cv rv):=bz.below mb mb nv cv rv hW1
 have H1:Hid _:=h1
 have lF:Hid _:=pj
 have jR:Hid _:=kX
 have fV:w.heap.size<=w.heap.size+1:=by omega
 obtain ⟨res,hres⟩:∃ res,res=ba fuel m (fun m=>(m.look n.source,m)):=⟨_,rfl⟩
 rw [<- hres]
 have jc:Hid _:=hres
 obtain ⟨y2,y3,_⟩:=bw h1.i.y
 have nR:=af h1.i.y
 have uL:Hid _:=hform
 clear hres hW1 h1 pj kX h hform
 unfold ptr aI
 go_enter Tryz.func89,Tryz.ntmps89
 subst hN
 subst hR
 go_upto_region 1 with fail
 rw [<- hE]
 clear hE
 generalize w.heap.size+1=q at *
 go_quiet (fail)
 rename_i nq
 obtain ⟨W2,uJ⟩:∃ W2,W2=W1.drewN nq:=⟨_,rfl⟩
 have hbl:Below W1.heap.size W1 W2:=by rw [uJ];exact iJ (Below.refl _ _)
 rw [<- uJ]
 have hf2:bz mb mb W1 W2 nv cv rv nv cv rv:=bz.below mb mb nv cv rv hbl
 have h2:=H1.out.below hbl
 have dC:=lF.out.keep hf2
 have fX:=jR.out.keep hf2
 have cx:Hid _:=dV.out.trans hf2
 clear uJ hbl hf2 H1 lF jR dV y2 y3 nR
 obtain ⟨y2,y3,y4,_⟩:=bw h2.i.y
 have f3:W2.frozen? ⟨mb,3,none⟩=false:=ag h2.i.y 3
 have nR:=af h2.i.y
 have JS:=h2.bd.steps
 have mG:=h2.fu
 have H2:Hid _:=h2
 have kS:Hid _:=dC
 have kY:Hid _:=fX
 obtain ⟨c0,c1,c2,c3,c4,c5,c6,c7,c8,c9⟩:=aC dC.b
 have il:=af dC.b
 clear h2 dC fX
 by_cases hq:fuel<=m.steps
 ·have hr:res=(v0,m.stop 12):=by
   rw [jc.out];unfold ba
   simp only [if_pos hq]
   rw [if_pos (pz m)]
  clear jc
  subst hr
  have hst:=sG mb W2 tn aO fuel nv cv rv m 12 H2.out.i
  have jf:Hid _:=hst
  clear hst
  unfold ptr at jf
  go_wp2_with fail
  refine Calls.mono jf.out ?_
  rintro _ w3 ⟨rfl,hf3,rW⟩
  have fS:Hid _:=cx.out.trans hf3
  have iZ:Hid _:=rW
  have aG:=kY.out.keep hf3
  have dq:Hid _:=aG
  have x0:w3.cell? ⟨q,0,none⟩=some (.bool false):=by rw [aa aG.b];rfl
  have x1:w3.cell? ⟨q,1,none⟩=some (.int .i64 0):=by rw [aa aG.b];rfl
  have g0:w3.frozen? ⟨q,0,none⟩=false:=ag aG.b 0
  have g1:w3.frozen? ⟨q,1,none⟩=false:=ag aG.b 1
  have Bl:=af aG.b
  have z4:=(bw rW.y).2.2.1
  have hne:((m.stop 12).fault:Int) != 0:=by have:=pz m;simpa using this
  have Qs:=af rW.y
  clear hf3 rW aG jf cx kY kS H2 y2 y3 y4 f3 c0 c1 c2 c3 c4 c5 c6 c7 c8 c9
  unfold v0
  go_wp2
  have aV:=dq.out
  have jB:=(iZ.out.beside aV.ne aV.n aV.c aV.r 0 (.bool (⟨false,0⟩:MV).c)).beside aV.ne aV.n aV.c aV.r 1 (.int .i64 (⟨false,0⟩:MV).n)
  have iK:=(fS.out.upto (aw (aw (Below.refl _ _) ⟨q,0,none⟩ fV (.bool (⟨false,0⟩:MV).c)) ⟨q,1,none⟩ fV (.int .i64 (⟨false,0⟩:MV).n)))
  refine bodyPost_ret (v:=.agg #[.bool (⟨false,0⟩:MV).c,.int .i64 (⟨false,0⟩:MV).n]) (by simp [results,Tryz.results89,go_sem,x0,x1]) rfl ⟨rfl,_,_,_,iK,jB⟩
 ·by_cases hz:m.fault=0
  ·have hr:res=(fun m=>(m.look n.source,m)) { m with steps:=m.steps+1 }:=by
    rw [jc.out];unfold ba
    simp only [if_neg hq]
    rw [if_neg (fun hn=>hn hz)]
   clear jc
   rw [hz] at y4
   have hs3:=H2.out.i.De { m with steps:=m.steps+1 } 3 (.int .i64 ((m.steps:Int)+1)) rfl rfl rfl rfl
   obtain ⟨W3,iv⟩:∃ W3,W3=W2.setCell ⟨mb,3,none⟩ (.int .i64 ((m.steps:Int)+1)):=⟨_,rfl⟩
   rw [<- iv] at hs3
   have hb3:nG fuel { m with steps:=m.steps+1 }:=⟨by simp only;omega,Nat.le_succ_of_le H2.out.bd.cells,H2.out.bd.live,H2.out.bd.sum,H2.out.bd.most,H2.out.bd.named,H2.out.bd.cell,H2.out.bd.regs,H2.out.bd.gA⟩
   have h3:ja mb B W3 tn aO fuel nv cv rv { m with steps:=m.steps+1 } ns op (c):=⟨hs3.2,hb3,H2.out.env.on hs3.1,H2.out.r1,H2.out.rl,by have:=H2.out.ob;simp only;omega,H2.out.nl,H2.out.fu⟩
   have dK:Hid _:=cx.out.trans hs3.1
   have sK:=kS.out.keep hs3.1
   have eI:Hid _:=kY.out.keep hs3.1
   have H3:Hid _:=h3
   obtain ⟨d0,d1,d2,d3,d4,d5,d6,d7,d8,d9⟩:=aC sK.b
   have Qv:=af sK.b
   clear hs3 hb3 sK h3 cx kY kS H2
   go_upto_region 6 with fail
   rw [<- iv]
   clear y2 y3 y4 f3 c0 c1 c2 c3 c4 c5 c6 c7 c8 c9 iv nR il JS mG hq hz
   have hlo:=Mt mb W3 tn aO fuel nv cv rv { m with steps:=m.steps+1 } n.source (by omega) (by rw [H3.out.nl];exact H3.out.env.len) H3.out.i
   have HLO:Hid _:=hlo
   clear hlo
   unfold ptr lG at HLO
   rw [uL.out] at d0
   go_wp2_with fail
   refine Calls.mono HLO.out ?_
   rintro _ w5 ⟨rfl,mF⟩
   subst hr
   have eG:bz mb mb W3 w5 nv cv rv nv cv rv:=bz.below mb mb nv cv rv mF
   have fS:Hid _:=dK.out.trans eG
   have iZ:Hid _:=H3.out.i.below mF
   have aG:=eI.out.keep eG
   have dq:Hid _:=aG
   have x0:w5.cell? ⟨q,0,none⟩=some (.bool false):=by rw [aa aG.b];rfl
   have x1:w5.cell? ⟨q,1,none⟩=some (.int .i64 0):=by rw [aa aG.b];rfl
   have g0:w5.frozen? ⟨q,0,none⟩=false:=ag aG.b 0
   have g1:w5.frozen? ⟨q,1,none⟩=false:=ag aG.b 1
   have Bl:=af aG.b
   clear mF eG aG HLO dK eI H3 d0 d1 d2 d3 d4 d5 d6 d7 d8 d9 Qv
   go_wp2
   have aV:=dq.out
   have jB:=(iZ.out.beside aV.ne aV.n aV.c aV.r 0 (.bool (MM.look { m with steps:=m.steps+1 } n.source).c)).beside aV.ne aV.n aV.c aV.r 1 (.int .i64 (MM.look { m with steps:=m.steps+1 } n.source).n)
   have iK:=(fS.out.upto (aw (aw (Below.refl _ _) ⟨q,0,none⟩ fV (.bool (MM.look { m with steps:=m.steps+1 } n.source).c)) ⟨q,1,none⟩ fV (.int .i64 (MM.look { m with steps:=m.steps+1 } n.source).n)))
   refine bodyPost_ret (v:=.agg #[.bool (MM.look { m with steps:=m.steps+1 } n.source).c,.int .i64 (MM.look { m with steps:=m.steps+1 } n.source).n]) (by simp [results,Tryz.results89,go_sem,x0,x1]) rfl ⟨rfl,_,_,_,iK,jB⟩
  ·have hr:res=(v0,m):=by
    rw [jc.out];unfold ba
    simp only [if_neg hq]
    rw [if_pos hz]
   clear jc
   subst hr
   have hne:((m.fault:Int) != 0)=true:=by simpa using hz
   have fS:Hid _:=cx.out
   have iZ:Hid _:=H2.out.i
   have aG:=kY.out
   have dq:Hid _:=aG
   have x0:W2.cell? ⟨q,0,none⟩=some (.bool false):=by rw [aa aG.b];rfl
   have x1:W2.cell? ⟨q,1,none⟩=some (.int .i64 0):=by rw [aa aG.b];rfl
   have g0:W2.frozen? ⟨q,0,none⟩=false:=ag aG.b 0
   have g1:W2.frozen? ⟨q,1,none⟩=false:=ag aG.b 1
   have Bl:=af aG.b
   clear aG cx kY kS H2 c0 c1 c2 c3 c4 c5 c6 c7 c8 c9 hz
   unfold v0
   go_wp2
   have aV:=dq.out
   have jB:=(iZ.out.beside aV.ne aV.n aV.c aV.r 0 (.bool (⟨false,0⟩:MV).c)).beside aV.ne aV.n aV.c aV.r 1 (.int .i64 (⟨false,0⟩:MV).n)
   have iK:=(fS.out.upto (aw (aw (Below.refl _ _) ⟨q,0,none⟩ fV (.bool (⟨false,0⟩:MV).c)) ⟨q,1,none⟩ fV (.int .i64 (⟨false,0⟩:MV).n)))
   refine bodyPost_ret (v:=.agg #[.bool (⟨false,0⟩:MV).c,.int .i64 (⟨false,0⟩:MV).n]) (by simp [results,Tryz.results89,go_sem,x0,x1]) rfl ⟨rfl,_,_,_,iK,jB⟩
end Go.Proofs.YtpicaknklgccoabGreatDoor
