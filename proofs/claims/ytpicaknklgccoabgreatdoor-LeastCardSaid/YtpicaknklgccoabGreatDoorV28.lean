import Derived.Test.YtpicaknklgccoabGreatDoorV27
set_option maxHeartbeats 4000000
set_option maxRecDepth 100000
namespace Go.Proofs.YtpicaknklgccoabGreatDoor
open Go.RowKit
theorem qZ (m:MM):(m.stop 12).fault≠0:=by unfold MM.stop;split <;> simp_all
theorem oF (k:Nat) (fn:FuncId) (mb B:Nat) (tn aS:Value) (fuel:Nat) (ns:List NR) (op:List Int) (n:NR) (hform:n.form=k) (A9:(k=3/\fn=110)\/(k=4/\fn=111)\/(k=5/\fn=112)\/(k=6/\fn=112)\/(k=7/\fn=113)\/(k=8/\fn=114)\/(k=9/\fn=114)\/(k=10/\fn=114)\/(k=11/\fn=115)) (c:Nat) (g:MM->MV × MM) (hg:∀ (w:World) (nv cv rv:Value) (m:MM),jJ mb B w tn aS fuel nv cv rv m ns op c->Calls Tryz.prog fn #[ptr mb,aK n] w (gG mb w tn aS fuel nv cv rv (g m)))
  (w:World) (nv cv rv:Value) (m:MM) (h:jJ mb B w tn aS fuel nv cv rv m ns op (c)) :
  Calls Tryz.prog 89 #[ptr mb,aK n] w (gG mb w tn aS fuel nv cv rv (bn fuel m (g))):=by
 obtain⟨N,hN⟩:∃ N:Obj,N=.cells #[.int .i64 n.form,.int .i64 n.at_,.int .i64 n.aL,.int .i64 n.num,.string (bs n.word),.int .i64 n.region,.int .i64 n.source,.int .i64 n.p0,.int .i64 n.p1,.int .i64 n.p2] 108:=⟨_,rfl⟩;obtain⟨R,hR⟩:∃ R:Obj,R=.cells #[.bool false,.int .i64 0] 122:=⟨_,rfl⟩;obtain⟨W1,hE⟩:∃ W1,W1=(w.alloc N).alloc R:=⟨_,rfl⟩
 have hW1:Below w.heap.size w W1:=by rw[hE];exact aD (aD (Below.refl _ _) _) _
 have h1:=h.below hW1;have qX:Beside mb w.heap.size W1 nv cv rv (cA n):=Beside.new h.i (by rw[hE,hN];exact aR _ (aj w _)) (Nat.le_refl _);have lX:Beside mb (w.heap.size+1) W1 nv cv rv (.cells #[.bool false,.int .i64 0] 122):=Beside.new h.i (by rw[hE,hR];have:=aj (w.alloc N) (.cells #[.bool false,.int .i64 0] 122);simpa using this) (by omega);have eH:Hid (bL mb mb w W1 nv cv rv nv cv rv):=bL.below mb mb nv cv rv hW1;have H1:Hid _:=h1;have kP:Hid _:=qX;have kI:Hid _:=lX
 have gr:w.heap.size<=w.heap.size+1:=by omega
 obtain⟨res,hres⟩:∃ res,res=bn fuel m (g):=⟨_,rfl⟩;rw[<- hres];have jL:Hid _:=hres;obtain⟨y2,y3,_⟩:=bK h1.i.y;have oL:=af h1.i.y;have wv:Hid _:=hform;clear hres hW1 h1 qX lX h hform;unfold ptr aK
 go_enter Tryz.func89,Tryz.ntmps89
 subst hN;subst hR
 go_upto_region 1 with fail
 rw[<- hE];clear hE;generalize w.heap.size+1=q at *
 go_quiet (fail)
 rename_i nq
 obtain⟨W2,uq⟩:∃ W2,W2=W1.drewN nq:=⟨_,rfl⟩
 have hbl:Below W1.heap.size W1 W2:=by rw[uq];exact jt (Below.refl _ _)
 rw[<- uq];have hf2:bL mb mb W1 W2 nv cv rv nv cv rv:=bL.below mb mb nv cv rv hbl;have h2:=H1.out.below hbl;have dY:=kP.out.keep hf2;have gF:=kI.out.keep hf2;have cS:Hid _:=eH.out.trans hf2;clear uq hbl hf2 H1 kP kI eH y2 y3 oL;obtain⟨y2,y3,y4,_⟩:=bK h2.i.y;have f3:W2.frozen? ⟨mb,3,none⟩=false:=ag h2.i.y 3;have oL:=af h2.i.y;have LI:=h2.bd.steps;have nH:=h2.fu;have H2:Hid _:=h2;have lY:Hid _:=dY;have lZ:Hid _:=gF;obtain⟨c0,c1,c2,c3,c4,c5,c6,c7,c8,c9⟩:=aC dY.b;have ja:=af dY.b;clear h2 dY gF
 by_cases hq:fuel<=m.steps
 ·have hr:res=(v0,m.stop 12):=by
   rw[jL.out];unfold bn;simp only[if_pos hq];rw[if_pos (qZ m)]
  clear jL;subst hr;have hst:=uj mb W2 tn aS fuel nv cv rv m 12 H2.out.i;have jO:Hid _:=hst;clear hst;unfold ptr at jO
  go_wp2_with fail
  refine Calls.mono jO.out ?_;rintro _ w3 ⟨rfl,hf3,tF⟩;have gB:Hid _:=cS.out.trans hf3;have jI:Hid _:=tF;have aI:=lZ.out.keep hf3;have dM:Hid _:=aI
  have x0:w3.cell? ⟨q,0,none⟩=some (.bool false):=by rw[aa aI.b];rfl
  have x1:w3.cell? ⟨q,1,none⟩=some (.int .i64 0):=by rw[aa aI.b];rfl
  have g0:w3.frozen? ⟨q,0,none⟩=false:=ag aI.b 0;have g1:w3.frozen? ⟨q,1,none⟩=false:=ag aI.b 1;have CL:=af aI.b;have z4:=(bK tF.y).2.2.1
  have hne:((m.stop 12).fault:Int) != 0:=by have:=qZ m;simpa using this
  have RJ:=af tF.y;clear hf3 tF aI jO cS lZ lY H2 y2 y3 y4 f3 c0 c1 c2 c3 c4 c5 c6 c7 c8 c9;unfold v0
  go_wp2
  have aY:=dM.out;have ku:=(jI.out.beside aY.ne aY.n aY.c aY.r 0 (.bool (⟨false,0⟩:MV).c)).beside aY.ne aY.n aY.c aY.r 1 (.int .i64 (⟨false,0⟩:MV).n);have ju:=(gB.out.upto (aw (aw (Below.refl _ _) ⟨q,0,none⟩ gr (.bool (⟨false,0⟩:MV).c)) ⟨q,1,none⟩ gr (.int .i64 (⟨false,0⟩:MV).n)));refine bodyPost_ret (v:=.agg #[.bool (⟨false,0⟩:MV).c,.int .i64 (⟨false,0⟩:MV).n]) (by simp[results,Tryz.results89,go_sem,x0,x1]) rfl ⟨rfl,_,_,_,ju,ku⟩
 ·by_cases hz:m.fault=0
  ·have hr:res=(g) { m with steps:=m.steps+1 }:=by
    rw[jL.out];unfold bn;simp only[if_neg hq];rw[if_neg (λhn=>hn hz)]
   clear jL;rw[hz] at y4;have hs3:=H2.out.i.EE { m with steps:=m.steps+1 } 3 (.int .i64 ((m.steps:Int)+1)) rfl rfl rfl rfl;obtain⟨W3,jd⟩:∃ W3,W3=W2.setCell ⟨mb,3,none⟩ (.int .i64 ((m.steps:Int)+1)):=⟨_,rfl⟩;rw[<- jd] at hs3;have hb3:oO fuel { m with steps:=m.steps+1 }:=⟨by simp only;omega,Nat.le_succ_of_le H2.out.bd.cells,H2.out.bd.live,H2.out.bd.sum,H2.out.bd.most,H2.out.bd.named,H2.out.bd.cell,H2.out.bd.regs,H2.out.bd.gO⟩;have h3:jJ mb B W3 tn aS fuel nv cv rv { m with steps:=m.steps+1 } ns op (c):=⟨hs3.2,hb3,H2.out.env.on hs3.1,H2.out.r1,H2.out.rl,by have:=H2.out.ob;simp only;omega,H2.out.nl,H2.out.fu⟩;have ee:Hid _:=cS.out.trans hs3.1;have ur:=lY.out.keep hs3.1;have fg:Hid _:=lZ.out.keep hs3.1;have H3:Hid _:=h3;obtain⟨d0,d1,d2,d3,d4,d5,d6,d7,d8,d9⟩:=aC ur.b;have RO:=af ur.b;clear hs3 hb3 ur h3 cS lZ lY H2
   go_upto_region 6 with fail
   rw[<- jd];clear y2 y3 y4 f3 c0 c1 c2 c3 c4 c5 c6 c7 c8 c9 jd oL ja LI nH hq hz;have hk:=hg W3 nv cv rv _ H3.out;rw[<- hr] at hk;have HK:Hid _:=hk;clear hk hr H3;unfold ptr aK at HK;rw[wv.out] at d0
   rcases A9 with ⟨rfl,rfl⟩ | ⟨rfl,rfl⟩ | ⟨rfl,rfl⟩ | ⟨rfl,rfl⟩ | ⟨rfl,rfl⟩ | ⟨rfl,rfl⟩ | ⟨rfl,rfl⟩ | ⟨rfl,rfl⟩ | ⟨rfl,rfl⟩
   all_goals
    go_wp2_with fail
    refine Calls.mono (by have:=HK.out;rw[wv.out] at this;exact this) ?_;rintro _ w5 ⟨rfl,Hm,cv5,rv5,eY,pG⟩;have gB:Hid _:=ee.out.trans eY;have jI:Hid _:=pG;have aI:=fg.out.keep eY;have dM:Hid _:=aI
    have x0:w5.cell? ⟨q,0,none⟩=some (.bool false):=by rw[aa aI.b];rfl
    have x1:w5.cell? ⟨q,1,none⟩=some (.int .i64 0):=by rw[aa aI.b];rfl
    have g0:w5.frozen? ⟨q,0,none⟩=false:=ag aI.b 0;have g1:w5.frozen? ⟨q,1,none⟩=false:=ag aI.b 1;have CL:=af aI.b;clear eY pG aI HK ee fg d0 d1 d2 d3 d4 d5 d6 d7 d8 d9 RO;unfold ml
    go_wp2
    have aY:=dM.out;have ku:=(jI.out.beside aY.ne aY.n aY.c aY.r 0 (.bool res.1.c)).beside aY.ne aY.n aY.c aY.r 1 (.int .i64 res.1.n);have ju:=(gB.out.upto (aw (aw (Below.refl _ _) ⟨q,0,none⟩ gr (.bool res.1.c)) ⟨q,1,none⟩ gr (.int .i64 res.1.n)));refine bodyPost_ret (v:=.agg #[.bool res.1.c,.int .i64 res.1.n]) (by simp[results,Tryz.results89,go_sem,x0,x1]) rfl ⟨rfl,_,_,_,ju,ku⟩
  ·have hr:res=(v0,m):=by
    rw[jL.out];unfold bn;simp only[if_neg hq];rw[if_pos hz]
   clear jL;subst hr
   have hne:((m.fault:Int) != 0)=true:=by simpa using hz
   have gB:Hid _:=cS.out;have jI:Hid _:=H2.out.i;have aI:=lZ.out;have dM:Hid _:=aI
   have x0:W2.cell? ⟨q,0,none⟩=some (.bool false):=by rw[aa aI.b];rfl
   have x1:W2.cell? ⟨q,1,none⟩=some (.int .i64 0):=by rw[aa aI.b];rfl
   have g0:W2.frozen? ⟨q,0,none⟩=false:=ag aI.b 0;have g1:W2.frozen? ⟨q,1,none⟩=false:=ag aI.b 1;have CL:=af aI.b;clear aI cS lZ lY H2 c0 c1 c2 c3 c4 c5 c6 c7 c8 c9 hz;unfold v0
   go_wp2
   have aY:=dM.out;have ku:=(jI.out.beside aY.ne aY.n aY.c aY.r 0 (.bool (⟨false,0⟩:MV).c)).beside aY.ne aY.n aY.c aY.r 1 (.int .i64 (⟨false,0⟩:MV).n);have ju:=(gB.out.upto (aw (aw (Below.refl _ _) ⟨q,0,none⟩ gr (.bool (⟨false,0⟩:MV).c)) ⟨q,1,none⟩ gr (.int .i64 (⟨false,0⟩:MV).n)));refine bodyPost_ret (v:=.agg #[.bool (⟨false,0⟩:MV).c,.int .i64 (⟨false,0⟩:MV).n]) (by simp[results,Tryz.results89,go_sem,x0,x1]) rfl ⟨rfl,_,_,_,ju,ku⟩
theorem V7 (mb B:Nat) (tn aS:Value) (fuel:Nat) (ns:List NR) (op:List Int) (n:NR) (hform:n.form=3) (c:Nat) (g:MM->MV × MM) (hg:∀ (w:World) (nv cv rv:Value) (m:MM),jJ mb B w tn aS fuel nv cv rv m ns op c->Calls Tryz.prog 110 #[ptr mb,aK n] w (gG mb w tn aS fuel nv cv rv (g m)))
  (w:World) (nv cv rv:Value) (m:MM) (h:jJ mb B w tn aS fuel nv cv rv m ns op c) :
  Calls Tryz.prog 89 #[ptr mb,aK n] w (gG mb w tn aS fuel nv cv rv (bn fuel m g)) :=
 oF 3 _ mb B tn aS fuel ns op n hform (Or.inl ⟨rfl,rfl⟩) c g hg w nv cv rv m h
theorem V8 (mb B:Nat) (tn aS:Value) (fuel:Nat) (ns:List NR) (op:List Int) (n:NR) (hform:n.form=4) (c:Nat) (g:MM->MV × MM) (hg:∀ (w:World) (nv cv rv:Value) (m:MM),jJ mb B w tn aS fuel nv cv rv m ns op c->Calls Tryz.prog 111 #[ptr mb,aK n] w (gG mb w tn aS fuel nv cv rv (g m)))
  (w:World) (nv cv rv:Value) (m:MM) (h:jJ mb B w tn aS fuel nv cv rv m ns op c) :
  Calls Tryz.prog 89 #[ptr mb,aK n] w (gG mb w tn aS fuel nv cv rv (bn fuel m g)) :=
 oF 4 _ mb B tn aS fuel ns op n hform (Or.inr (Or.inl ⟨rfl,rfl⟩)) c g hg w nv cv rv m h
theorem V9 (mb B:Nat) (tn aS:Value) (fuel:Nat) (ns:List NR) (op:List Int) (n:NR) (hform:n.form=5) (c:Nat) (g:MM->MV × MM) (hg:∀ (w:World) (nv cv rv:Value) (m:MM),jJ mb B w tn aS fuel nv cv rv m ns op c->Calls Tryz.prog 112 #[ptr mb,aK n] w (gG mb w tn aS fuel nv cv rv (g m)))
  (w:World) (nv cv rv:Value) (m:MM) (h:jJ mb B w tn aS fuel nv cv rv m ns op c) :
  Calls Tryz.prog 89 #[ptr mb,aK n] w (gG mb w tn aS fuel nv cv rv (bn fuel m g)) :=
 oF 5 _ mb B tn aS fuel ns op n hform (Or.inr (Or.inr (Or.inl ⟨rfl,rfl⟩))) c g hg w nv cv rv m h
theorem Wa (mb B:Nat) (tn aS:Value) (fuel:Nat) (ns:List NR) (op:List Int) (n:NR) (hform:n.form=6) (c:Nat) (g:MM->MV × MM) (hg:∀ (w:World) (nv cv rv:Value) (m:MM),jJ mb B w tn aS fuel nv cv rv m ns op c->Calls Tryz.prog 112 #[ptr mb,aK n] w (gG mb w tn aS fuel nv cv rv (g m)))
  (w:World) (nv cv rv:Value) (m:MM) (h:jJ mb B w tn aS fuel nv cv rv m ns op c) :
  Calls Tryz.prog 89 #[ptr mb,aK n] w (gG mb w tn aS fuel nv cv rv (bn fuel m g)) :=
 oF 6 _ mb B tn aS fuel ns op n hform (Or.inr (Or.inr (Or.inr (Or.inl ⟨rfl,rfl⟩)))) c g hg w nv cv rv m h
theorem Wb (mb B:Nat) (tn aS:Value) (fuel:Nat) (ns:List NR) (op:List Int) (n:NR) (hform:n.form=7) (c:Nat) (g:MM->MV × MM) (hg:∀ (w:World) (nv cv rv:Value) (m:MM),jJ mb B w tn aS fuel nv cv rv m ns op c->Calls Tryz.prog 113 #[ptr mb,aK n] w (gG mb w tn aS fuel nv cv rv (g m)))
  (w:World) (nv cv rv:Value) (m:MM) (h:jJ mb B w tn aS fuel nv cv rv m ns op c) :
  Calls Tryz.prog 89 #[ptr mb,aK n] w (gG mb w tn aS fuel nv cv rv (bn fuel m g)) :=
 oF 7 _ mb B tn aS fuel ns op n hform (Or.inr (Or.inr (Or.inr (Or.inr (Or.inl ⟨rfl,rfl⟩))))) c g hg w nv cv rv m h
theorem Wc (mb B:Nat) (tn aS:Value) (fuel:Nat) (ns:List NR) (op:List Int) (n:NR) (hform:n.form=8) (c:Nat) (g:MM->MV × MM) (hg:∀ (w:World) (nv cv rv:Value) (m:MM),jJ mb B w tn aS fuel nv cv rv m ns op c->Calls Tryz.prog 114 #[ptr mb,aK n] w (gG mb w tn aS fuel nv cv rv (g m)))
  (w:World) (nv cv rv:Value) (m:MM) (h:jJ mb B w tn aS fuel nv cv rv m ns op c) :
  Calls Tryz.prog 89 #[ptr mb,aK n] w (gG mb w tn aS fuel nv cv rv (bn fuel m g)) :=
 oF 8 _ mb B tn aS fuel ns op n hform (Or.inr (Or.inr (Or.inr (Or.inr (Or.inr (Or.inl ⟨rfl,rfl⟩)))))) c g hg w nv cv rv m h
theorem Wd (mb B:Nat) (tn aS:Value) (fuel:Nat) (ns:List NR) (op:List Int) (n:NR) (hform:n.form=9) (c:Nat) (g:MM->MV × MM) (hg:∀ (w:World) (nv cv rv:Value) (m:MM),jJ mb B w tn aS fuel nv cv rv m ns op c->Calls Tryz.prog 114 #[ptr mb,aK n] w (gG mb w tn aS fuel nv cv rv (g m)))
  (w:World) (nv cv rv:Value) (m:MM) (h:jJ mb B w tn aS fuel nv cv rv m ns op c) :
  Calls Tryz.prog 89 #[ptr mb,aK n] w (gG mb w tn aS fuel nv cv rv (bn fuel m g)) :=
 oF 9 _ mb B tn aS fuel ns op n hform (Or.inr (Or.inr (Or.inr (Or.inr (Or.inr (Or.inr (Or.inl ⟨rfl,rfl⟩))))))) c g hg w nv cv rv m h
theorem RP (mb B:Nat) (tn aS:Value) (fuel:Nat) (ns:List NR) (op:List Int) (n:NR) (hform:n.form=10) (c:Nat) (g:MM->MV × MM) (hg:∀ (w:World) (nv cv rv:Value) (m:MM),jJ mb B w tn aS fuel nv cv rv m ns op c->Calls Tryz.prog 114 #[ptr mb,aK n] w (gG mb w tn aS fuel nv cv rv (g m)))
  (w:World) (nv cv rv:Value) (m:MM) (h:jJ mb B w tn aS fuel nv cv rv m ns op c) :
  Calls Tryz.prog 89 #[ptr mb,aK n] w (gG mb w tn aS fuel nv cv rv (bn fuel m g)) :=
 oF 10 _ mb B tn aS fuel ns op n hform (Or.inr (Or.inr (Or.inr (Or.inr (Or.inr (Or.inr (Or.inr (Or.inl ⟨rfl,rfl⟩)))))))) c g hg w nv cv rv m h
theorem RQ (mb B:Nat) (tn aS:Value) (fuel:Nat) (ns:List NR) (op:List Int) (n:NR) (hform:n.form=11) (c:Nat) (g:MM->MV × MM) (hg:∀ (w:World) (nv cv rv:Value) (m:MM),jJ mb B w tn aS fuel nv cv rv m ns op c->Calls Tryz.prog 115 #[ptr mb,aK n] w (gG mb w tn aS fuel nv cv rv (g m)))
  (w:World) (nv cv rv:Value) (m:MM) (h:jJ mb B w tn aS fuel nv cv rv m ns op c) :
  Calls Tryz.prog 89 #[ptr mb,aK n] w (gG mb w tn aS fuel nv cv rv (bn fuel m g)) :=
 oF 11 _ mb B tn aS fuel ns op n hform (Or.inr (Or.inr (Or.inr (Or.inr (Or.inr (Or.inr (Or.inr (Or.inr (⟨rfl,rfl⟩))))))))) c g hg w nv cv rv m h
theorem We (mb B:Nat) (tn aS:Value) (fuel:Nat) (ns:List NR) (op:List Int) (n:NR) (hform:n.form=1) (c:Nat)
  (w:World) (nv cv rv:Value) (m:MM) (h:jJ mb B w tn aS fuel nv cv rv m ns op (c)) :
  Calls Tryz.prog 89 #[ptr mb,aK n] w (gG mb w tn aS fuel nv cv rv (bn fuel m (λm=>(⟨false,n.num⟩,m)))):=by
 obtain⟨N,hN⟩:∃ N:Obj,N=.cells #[.int .i64 n.form,.int .i64 n.at_,.int .i64 n.aL,.int .i64 n.num,.string (bs n.word),.int .i64 n.region,.int .i64 n.source,.int .i64 n.p0,.int .i64 n.p1,.int .i64 n.p2] 108:=⟨_,rfl⟩;obtain⟨R,hR⟩:∃ R:Obj,R=.cells #[.bool false,.int .i64 0] 122:=⟨_,rfl⟩;obtain⟨W1,hE⟩:∃ W1,W1=(w.alloc N).alloc R:=⟨_,rfl⟩
 have hW1:Below w.heap.size w W1:=by rw[hE];exact aD (aD (Below.refl _ _) _) _
 have h1:=h.below hW1;have qX:Beside mb w.heap.size W1 nv cv rv (cA n):=Beside.new h.i (by rw[hE,hN];exact aR _ (aj w _)) (Nat.le_refl _);have lX:Beside mb (w.heap.size+1) W1 nv cv rv (.cells #[.bool false,.int .i64 0] 122):=Beside.new h.i (by rw[hE,hR];have:=aj (w.alloc N) (.cells #[.bool false,.int .i64 0] 122);simpa using this) (by omega);have eH:Hid (bL mb mb w W1 nv cv rv nv cv rv):=bL.below mb mb nv cv rv hW1;have H1:Hid _:=h1;have kP:Hid _:=qX;have kI:Hid _:=lX
 have gr:w.heap.size<=w.heap.size+1:=by omega
 obtain⟨res,hres⟩:∃ res,res=bn fuel m (λm=>(⟨false,n.num⟩,m)):=⟨_,rfl⟩;rw[<- hres];have jL:Hid _:=hres;obtain⟨y2,y3,_⟩:=bK h1.i.y;have oL:=af h1.i.y;have wv:Hid _:=hform;clear hres hW1 h1 qX lX h hform;unfold ptr aK
 go_enter Tryz.func89,Tryz.ntmps89
 subst hN;subst hR
 go_upto_region 1 with fail
 rw[<- hE];clear hE;generalize w.heap.size+1=q at *
 go_quiet (fail)
 rename_i nq
 obtain⟨W2,uq⟩:∃ W2,W2=W1.drewN nq:=⟨_,rfl⟩
 have hbl:Below W1.heap.size W1 W2:=by rw[uq];exact jt (Below.refl _ _)
 rw[<- uq];have hf2:bL mb mb W1 W2 nv cv rv nv cv rv:=bL.below mb mb nv cv rv hbl;have h2:=H1.out.below hbl;have dY:=kP.out.keep hf2;have gF:=kI.out.keep hf2;have cS:Hid _:=eH.out.trans hf2;clear uq hbl hf2 H1 kP kI eH y2 y3 oL;obtain⟨y2,y3,y4,_⟩:=bK h2.i.y;have f3:W2.frozen? ⟨mb,3,none⟩=false:=ag h2.i.y 3;have oL:=af h2.i.y;have LI:=h2.bd.steps;have nH:=h2.fu;have H2:Hid _:=h2;have lY:Hid _:=dY;have lZ:Hid _:=gF;obtain⟨c0,c1,c2,c3,c4,c5,c6,c7,c8,c9⟩:=aC dY.b;have ja:=af dY.b;clear h2 dY gF
 by_cases hq:fuel<=m.steps
 ·have hr:res=(v0,m.stop 12):=by
   rw[jL.out];unfold bn;simp only[if_pos hq];rw[if_pos (qZ m)]
  clear jL;subst hr;have hst:=uj mb W2 tn aS fuel nv cv rv m 12 H2.out.i;have jO:Hid _:=hst;clear hst;unfold ptr at jO
  go_wp2_with fail
  refine Calls.mono jO.out ?_;rintro _ w3 ⟨rfl,hf3,tF⟩;have gB:Hid _:=cS.out.trans hf3;have jI:Hid _:=tF;have aI:=lZ.out.keep hf3;have dM:Hid _:=aI
  have x0:w3.cell? ⟨q,0,none⟩=some (.bool false):=by rw[aa aI.b];rfl
  have x1:w3.cell? ⟨q,1,none⟩=some (.int .i64 0):=by rw[aa aI.b];rfl
  have g0:w3.frozen? ⟨q,0,none⟩=false:=ag aI.b 0;have g1:w3.frozen? ⟨q,1,none⟩=false:=ag aI.b 1;have CL:=af aI.b;have z4:=(bK tF.y).2.2.1
  have hne:((m.stop 12).fault:Int) != 0:=by have:=qZ m;simpa using this
  have RJ:=af tF.y;clear hf3 tF aI jO cS lZ lY H2 y2 y3 y4 f3 c0 c1 c2 c3 c4 c5 c6 c7 c8 c9;unfold v0
  go_wp2
  have aY:=dM.out;have ku:=(jI.out.beside aY.ne aY.n aY.c aY.r 0 (.bool (⟨false,0⟩:MV).c)).beside aY.ne aY.n aY.c aY.r 1 (.int .i64 (⟨false,0⟩:MV).n);have ju:=(gB.out.upto (aw (aw (Below.refl _ _) ⟨q,0,none⟩ gr (.bool (⟨false,0⟩:MV).c)) ⟨q,1,none⟩ gr (.int .i64 (⟨false,0⟩:MV).n)));refine bodyPost_ret (v:=.agg #[.bool (⟨false,0⟩:MV).c,.int .i64 (⟨false,0⟩:MV).n]) (by simp[results,Tryz.results89,go_sem,x0,x1]) rfl ⟨rfl,_,_,_,ju,ku⟩
 ·by_cases hz:m.fault=0
  ·have hr:res=(λm=>(⟨false,n.num⟩,m)) { m with steps:=m.steps+1 }:=by
    rw[jL.out];unfold bn;simp only[if_neg hq];rw[if_neg (λhn=>hn hz)]
   clear jL;rw[hz] at y4;have hs3:=H2.out.i.EE { m with steps:=m.steps+1 } 3 (.int .i64 ((m.steps:Int)+1)) rfl rfl rfl rfl;obtain⟨W3,jd⟩:∃ W3,W3=W2.setCell ⟨mb,3,none⟩ (.int .i64 ((m.steps:Int)+1)):=⟨_,rfl⟩;rw[<- jd] at hs3;have hb3:oO fuel { m with steps:=m.steps+1 }:=⟨by simp only;omega,Nat.le_succ_of_le H2.out.bd.cells,H2.out.bd.live,H2.out.bd.sum,H2.out.bd.most,H2.out.bd.named,H2.out.bd.cell,H2.out.bd.regs,H2.out.bd.gO⟩;have h3:jJ mb B W3 tn aS fuel nv cv rv { m with steps:=m.steps+1 } ns op (c):=⟨hs3.2,hb3,H2.out.env.on hs3.1,H2.out.r1,H2.out.rl,by have:=H2.out.ob;simp only;omega,H2.out.nl,H2.out.fu⟩;have ee:Hid _:=cS.out.trans hs3.1;have ur:=lY.out.keep hs3.1;have fg:Hid _:=lZ.out.keep hs3.1;have H3:Hid _:=h3;obtain⟨d0,d1,d2,d3,d4,d5,d6,d7,d8,d9⟩:=aC ur.b;have RO:=af ur.b;clear hs3 hb3 ur h3 cS lZ lY H2
   go_upto_region 6 with fail
   rw[<- jd];clear y2 y3 y4 f3 c0 c1 c2 c3 c4 c5 c6 c7 c8 c9 jd oL ja LI nH hq hz;rw[wv.out] at d0;subst hr;have gB:Hid _:=ee.out;have jI:Hid _:=H3.out.i;have aI:=fg.out;have dM:Hid _:=aI
   have x0:W3.cell? ⟨q,0,none⟩=some (.bool false):=by rw[aa aI.b];rfl
   have x1:W3.cell? ⟨q,1,none⟩=some (.int .i64 0):=by rw[aa aI.b];rfl
   have g0:W3.frozen? ⟨q,0,none⟩=false:=ag aI.b 0;have g1:W3.frozen? ⟨q,1,none⟩=false:=ag aI.b 1;have CL:=af aI.b;clear aI ee fg H3
   go_wp2
   have aY:=dM.out;have ku:=(jI.out.beside aY.ne aY.n aY.c aY.r 0 (.bool (⟨false,n.num⟩:MV).c)).beside aY.ne aY.n aY.c aY.r 1 (.int .i64 (⟨false,n.num⟩:MV).n);have ju:=(gB.out.upto (aw (aw (Below.refl _ _) ⟨q,0,none⟩ gr (.bool (⟨false,n.num⟩:MV).c)) ⟨q,1,none⟩ gr (.int .i64 (⟨false,n.num⟩:MV).n)));refine bodyPost_ret (v:=.agg #[.bool (⟨false,n.num⟩:MV).c,.int .i64 (⟨false,n.num⟩:MV).n]) (by simp[results,Tryz.results89,go_sem,x0,x1]) rfl ⟨rfl,_,_,_,ju,ku⟩
  ·have hr:res=(v0,m):=by
    rw[jL.out];unfold bn;simp only[if_neg hq];rw[if_pos hz]
   clear jL;subst hr
   have hne:((m.fault:Int) != 0)=true:=by simpa using hz
   have gB:Hid _:=cS.out;have jI:Hid _:=H2.out.i;have aI:=lZ.out;have dM:Hid _:=aI
   have x0:W2.cell? ⟨q,0,none⟩=some (.bool false):=by rw[aa aI.b];rfl
   have x1:W2.cell? ⟨q,1,none⟩=some (.int .i64 0):=by rw[aa aI.b];rfl
   have g0:W2.frozen? ⟨q,0,none⟩=false:=ag aI.b 0;have g1:W2.frozen? ⟨q,1,none⟩=false:=ag aI.b 1;have CL:=af aI.b;clear aI cS lZ lY H2 c0 c1 c2 c3 c4 c5 c6 c7 c8 c9 hz;unfold v0
   go_wp2
   have aY:=dM.out;have ku:=(jI.out.beside aY.ne aY.n aY.c aY.r 0 (.bool (⟨false,0⟩:MV).c)).beside aY.ne aY.n aY.c aY.r 1 (.int .i64 (⟨false,0⟩:MV).n);have ju:=(gB.out.upto (aw (aw (Below.refl _ _) ⟨q,0,none⟩ gr (.bool (⟨false,0⟩:MV).c)) ⟨q,1,none⟩ gr (.int .i64 (⟨false,0⟩:MV).n)));refine bodyPost_ret (v:=.agg #[.bool (⟨false,0⟩:MV).c,.int .i64 (⟨false,0⟩:MV).n]) (by simp[results,Tryz.results89,go_sem,x0,x1]) rfl ⟨rfl,_,_,_,ju,ku⟩
theorem Wf (mb B:Nat) (tn aS:Value) (fuel:Nat) (ns:List NR) (op:List Int) (n:NR) (hform:n.form=2) (c:Nat) (hsrc:-1<=n.source/\n.source<=9000)
  (w:World) (nv cv rv:Value) (m:MM) (h:jJ mb B w tn aS fuel nv cv rv m ns op (c)) :
  Calls Tryz.prog 89 #[ptr mb,aK n] w (gG mb w tn aS fuel nv cv rv (bn fuel m (λm=>(m.look n.source,m)))):=by
 obtain⟨N,hN⟩:∃ N:Obj,N=.cells #[.int .i64 n.form,.int .i64 n.at_,.int .i64 n.aL,.int .i64 n.num,.string (bs n.word),.int .i64 n.region,.int .i64 n.source,.int .i64 n.p0,.int .i64 n.p1,.int .i64 n.p2] 108:=⟨_,rfl⟩;obtain⟨R,hR⟩:∃ R:Obj,R=.cells #[.bool false,.int .i64 0] 122:=⟨_,rfl⟩;obtain⟨W1,hE⟩:∃ W1,W1=(w.alloc N).alloc R:=⟨_,rfl⟩
 have hW1:Below w.heap.size w W1:=by rw[hE];exact aD (aD (Below.refl _ _) _) _
 have h1:=h.below hW1;have qX:Beside mb w.heap.size W1 nv cv rv (cA n):=Beside.new h.i (by rw[hE,hN];exact aR _ (aj w _)) (Nat.le_refl _);have lX:Beside mb (w.heap.size+1) W1 nv cv rv (.cells #[.bool false,.int .i64 0] 122):=Beside.new h.i (by rw[hE,hR];have:=aj (w.alloc N) (.cells #[.bool false,.int .i64 0] 122);simpa using this) (by omega);have eH:Hid (bL mb mb w W1 nv cv rv nv cv rv):=bL.below mb mb nv cv rv hW1;have H1:Hid _:=h1;have kP:Hid _:=qX;have kI:Hid _:=lX
 have gr:w.heap.size<=w.heap.size+1:=by omega
 obtain⟨res,hres⟩:∃ res,res=bn fuel m (λm=>(m.look n.source,m)):=⟨_,rfl⟩;rw[<- hres];have jL:Hid _:=hres;obtain⟨y2,y3,_⟩:=bK h1.i.y;have oL:=af h1.i.y;have wv:Hid _:=hform;clear hres hW1 h1 qX lX h hform;unfold ptr aK
 go_enter Tryz.func89,Tryz.ntmps89
 subst hN;subst hR
 go_upto_region 1 with fail
 rw[<- hE];clear hE;generalize w.heap.size+1=q at *
 go_quiet (fail)
 rename_i nq
 obtain⟨W2,uq⟩:∃ W2,W2=W1.drewN nq:=⟨_,rfl⟩
 have hbl:Below W1.heap.size W1 W2:=by rw[uq];exact jt (Below.refl _ _)
 rw[<- uq];have hf2:bL mb mb W1 W2 nv cv rv nv cv rv:=bL.below mb mb nv cv rv hbl;have h2:=H1.out.below hbl;have dY:=kP.out.keep hf2;have gF:=kI.out.keep hf2;have cS:Hid _:=eH.out.trans hf2;clear uq hbl hf2 H1 kP kI eH y2 y3 oL;obtain⟨y2,y3,y4,_⟩:=bK h2.i.y;have f3:W2.frozen? ⟨mb,3,none⟩=false:=ag h2.i.y 3;have oL:=af h2.i.y;have LI:=h2.bd.steps;have nH:=h2.fu;have H2:Hid _:=h2;have lY:Hid _:=dY;have lZ:Hid _:=gF;obtain⟨c0,c1,c2,c3,c4,c5,c6,c7,c8,c9⟩:=aC dY.b;have ja:=af dY.b;clear h2 dY gF
 by_cases hq:fuel<=m.steps
 ·have hr:res=(v0,m.stop 12):=by
   rw[jL.out];unfold bn;simp only[if_pos hq];rw[if_pos (qZ m)]
  clear jL;subst hr;have hst:=uj mb W2 tn aS fuel nv cv rv m 12 H2.out.i;have jO:Hid _:=hst;clear hst;unfold ptr at jO
  go_wp2_with fail
  refine Calls.mono jO.out ?_;rintro _ w3 ⟨rfl,hf3,tF⟩;have gB:Hid _:=cS.out.trans hf3;have jI:Hid _:=tF;have aI:=lZ.out.keep hf3;have dM:Hid _:=aI
  have x0:w3.cell? ⟨q,0,none⟩=some (.bool false):=by rw[aa aI.b];rfl
  have x1:w3.cell? ⟨q,1,none⟩=some (.int .i64 0):=by rw[aa aI.b];rfl
  have g0:w3.frozen? ⟨q,0,none⟩=false:=ag aI.b 0;have g1:w3.frozen? ⟨q,1,none⟩=false:=ag aI.b 1;have CL:=af aI.b;have z4:=(bK tF.y).2.2.1
  have hne:((m.stop 12).fault:Int) != 0:=by have:=qZ m;simpa using this
  have RJ:=af tF.y;clear hf3 tF aI jO cS lZ lY H2 y2 y3 y4 f3 c0 c1 c2 c3 c4 c5 c6 c7 c8 c9;unfold v0
  go_wp2
  have aY:=dM.out;have ku:=(jI.out.beside aY.ne aY.n aY.c aY.r 0 (.bool (⟨false,0⟩:MV).c)).beside aY.ne aY.n aY.c aY.r 1 (.int .i64 (⟨false,0⟩:MV).n);have ju:=(gB.out.upto (aw (aw (Below.refl _ _) ⟨q,0,none⟩ gr (.bool (⟨false,0⟩:MV).c)) ⟨q,1,none⟩ gr (.int .i64 (⟨false,0⟩:MV).n)));refine bodyPost_ret (v:=.agg #[.bool (⟨false,0⟩:MV).c,.int .i64 (⟨false,0⟩:MV).n]) (by simp[results,Tryz.results89,go_sem,x0,x1]) rfl ⟨rfl,_,_,_,ju,ku⟩
 ·by_cases hz:m.fault=0
  ·have hr:res=(λm=>(m.look n.source,m)) { m with steps:=m.steps+1 }:=by
    rw[jL.out];unfold bn;simp only[if_neg hq];rw[if_neg (λhn=>hn hz)]
   clear jL;rw[hz] at y4;have hs3:=H2.out.i.EE { m with steps:=m.steps+1 } 3 (.int .i64 ((m.steps:Int)+1)) rfl rfl rfl rfl;obtain⟨W3,jd⟩:∃ W3,W3=W2.setCell ⟨mb,3,none⟩ (.int .i64 ((m.steps:Int)+1)):=⟨_,rfl⟩;rw[<- jd] at hs3;have hb3:oO fuel { m with steps:=m.steps+1 }:=⟨by simp only;omega,Nat.le_succ_of_le H2.out.bd.cells,H2.out.bd.live,H2.out.bd.sum,H2.out.bd.most,H2.out.bd.named,H2.out.bd.cell,H2.out.bd.regs,H2.out.bd.gO⟩;have h3:jJ mb B W3 tn aS fuel nv cv rv { m with steps:=m.steps+1 } ns op (c):=⟨hs3.2,hb3,H2.out.env.on hs3.1,H2.out.r1,H2.out.rl,by have:=H2.out.ob;simp only;omega,H2.out.nl,H2.out.fu⟩;have ee:Hid _:=cS.out.trans hs3.1;have ur:=lY.out.keep hs3.1;have fg:Hid _:=lZ.out.keep hs3.1;have H3:Hid _:=h3;obtain⟨d0,d1,d2,d3,d4,d5,d6,d7,d8,d9⟩:=aC ur.b;have RO:=af ur.b;clear hs3 hb3 ur h3 cS lZ lY H2
   go_upto_region 6 with fail
   rw[<- jd];clear y2 y3 y4 f3 c0 c1 c2 c3 c4 c5 c6 c7 c8 c9 jd oL ja LI nH hq hz;have hlo:=Oh mb W3 tn aS fuel nv cv rv { m with steps:=m.steps+1 } n.source (by omega) (by rw[H3.out.nl];exact H3.out.env.len) H3.out.i;have HLO:Hid _:=hlo;clear hlo;unfold ptr ml at HLO;rw[wv.out] at d0
   go_wp2_with fail
   refine Calls.mono HLO.out ?_;rintro _ w5 ⟨rfl,nD⟩;subst hr;have eY:bL mb mb W3 w5 nv cv rv nv cv rv:=bL.below mb mb nv cv rv nD;have gB:Hid _:=ee.out.trans eY;have jI:Hid _:=H3.out.i.below nD;have aI:=fg.out.keep eY;have dM:Hid _:=aI
   have x0:w5.cell? ⟨q,0,none⟩=some (.bool false):=by rw[aa aI.b];rfl
   have x1:w5.cell? ⟨q,1,none⟩=some (.int .i64 0):=by rw[aa aI.b];rfl
   have g0:w5.frozen? ⟨q,0,none⟩=false:=ag aI.b 0;have g1:w5.frozen? ⟨q,1,none⟩=false:=ag aI.b 1;have CL:=af aI.b;clear nD eY aI HLO ee fg H3 d0 d1 d2 d3 d4 d5 d6 d7 d8 d9 RO
   go_wp2
   have aY:=dM.out;have ku:=(jI.out.beside aY.ne aY.n aY.c aY.r 0 (.bool (MM.look { m with steps:=m.steps+1 } n.source).c)).beside aY.ne aY.n aY.c aY.r 1 (.int .i64 (MM.look { m with steps:=m.steps+1 } n.source).n);have ju:=(gB.out.upto (aw (aw (Below.refl _ _) ⟨q,0,none⟩ gr (.bool (MM.look { m with steps:=m.steps+1 } n.source).c)) ⟨q,1,none⟩ gr (.int .i64 (MM.look { m with steps:=m.steps+1 } n.source).n)));refine bodyPost_ret (v:=.agg #[.bool (MM.look { m with steps:=m.steps+1 } n.source).c,.int .i64 (MM.look { m with steps:=m.steps+1 } n.source).n]) (by simp[results,Tryz.results89,go_sem,x0,x1]) rfl ⟨rfl,_,_,_,ju,ku⟩
  ·have hr:res=(v0,m):=by
    rw[jL.out];unfold bn;simp only[if_neg hq];rw[if_pos hz]
   clear jL;subst hr
   have hne:((m.fault:Int) != 0)=true:=by simpa using hz
   have gB:Hid _:=cS.out;have jI:Hid _:=H2.out.i;have aI:=lZ.out;have dM:Hid _:=aI
   have x0:W2.cell? ⟨q,0,none⟩=some (.bool false):=by rw[aa aI.b];rfl
   have x1:W2.cell? ⟨q,1,none⟩=some (.int .i64 0):=by rw[aa aI.b];rfl
   have g0:W2.frozen? ⟨q,0,none⟩=false:=ag aI.b 0;have g1:W2.frozen? ⟨q,1,none⟩=false:=ag aI.b 1;have CL:=af aI.b;clear aI cS lZ lY H2 c0 c1 c2 c3 c4 c5 c6 c7 c8 c9 hz;unfold v0
   go_wp2
   have aY:=dM.out;have ku:=(jI.out.beside aY.ne aY.n aY.c aY.r 0 (.bool (⟨false,0⟩:MV).c)).beside aY.ne aY.n aY.c aY.r 1 (.int .i64 (⟨false,0⟩:MV).n);have ju:=(gB.out.upto (aw (aw (Below.refl _ _) ⟨q,0,none⟩ gr (.bool (⟨false,0⟩:MV).c)) ⟨q,1,none⟩ gr (.int .i64 (⟨false,0⟩:MV).n)));refine bodyPost_ret (v:=.agg #[.bool (⟨false,0⟩:MV).c,.int .i64 (⟨false,0⟩:MV).n]) (by simp[results,Tryz.results89,go_sem,x0,x1]) rfl ⟨rfl,_,_,_,ju,ku⟩
end Go.Proofs.YtpicaknklgccoabGreatDoor
