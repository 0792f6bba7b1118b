import Derived.Test.YtpicaknklgccoabGreatDoorS31
set_option maxHeartbeats 4000000
set_option maxRecDepth 100000
namespace Go.Proofs.YtpicaknklgccoabGreatDoor
open Go.RowKit
open Go.Lib (decDigits)
theorem cO.Gl {w w':World} {yb q o:Nat} {x nv bB:Value} (h:cO w w' yb nv bB) (hq:w.heap.size<=q):cO w (w'.setCell ⟨q,o,none⟩ x) yb nv bB :=
 ⟨by have:=h.size;simpa [World.setCell] using this,fun k hk hy hn=>by rw [ak _ _ (by simp only;omega)];exact h.blk k hk hy hn,h.n⟩
theorem dD.ko {w:World} {q o:Nat} {x:Value} {arr:Array Value} (hq:w.heap[q]?=some (.cells arr 86 (0,0))) {v:Vl} {p:Nat} (h:dD w v p):dD (w.setCell ⟨q,o,none⟩ x) v p :=
 h.keep (fun k Vp hk=>by
  rw [ak _ _ (by
   simp only
   rintro rfl
   rw [hq] at hk
   simp only [Option.some.injEq,Obj.cells.injEq] at hk
   exact absurd hk.2.1 (by decide))]
  exact hk)
theorem dE.ko {w0 w:World} {yb:Nat} {vals:List Vl} {ps:List Nat} {fuel:Nat} {st:bY} {nv:Value} {q o:Nat} {x:Value} {arr:Array Value} (h:dE w0 w yb vals ps fuel st nv) (hq:w.heap[q]?=some (.cells arr 86 (0,0))) (h0:w0.heap.size<=q):dE w0 (w.setCell ⟨q,o,none⟩ x) yb vals ps fuel st nv:=by
 have hne:∀ (k:Nat) (Vp:Array Value) (U:TypeId) (fz:Nat × Nat),U≠86->w.heap[k]?=some (.cells Vp U fz)->(w.setCell ⟨q,o,none⟩ x).heap[k]?=w.heap[k]?:=by
  intro k Vp U fz hU hk
  refine ak _ _ ?_
  simp only
  rintro rfl
  rw [hq] at hk
  simp only [Option.some.injEq,Obj.cells.injEq] at hk
  exact hU hk.2.1.symm
 refine ⟨⟨h.ob.b0.setCell (p:=⟨q,o,none⟩) h0 _,h.ob.hyb,?_,ax h.ob.n (fun k hk=>?_),h.ob.ny⟩,h.len,fun i v p h1 h2=>(h.v i v p h1 h2).ko hq⟩
 ·rw [hne yb _ _ _ (by decide) h.ob.y];exact h.ob.y
 ·rcases h.ob.n.2 with ⟨hv,_⟩ | ⟨g,cap,cur,hv,_,hg,_⟩
  ·rw [hv] at hk;cases hk
  ·rw [hv] at hk
   simp only [Value.ownBlock,Option.some.injEq] at hk
   subst hk
   exact hne _ _ _ _ (by decide) hg
def x9 (a b:Value):Obj:=.cells #[a,b] 86 (0,0)
theorem vR {w0:World} (yb fuel:Nat) (vs:List Nat) (k:Kw) (n:Nat) (a d:KE) (ta td:Nat) (hk1:k≠.aT) (hk2:k≠.dQ) (qt:k≠.loop) (iG:KT vs a ta) (htd:KT vs d td) (hvl:vs.length<=100) (aM:Ko w0 yb fuel a vs) (NJ:Ko w0 yb fuel d vs) (YM:DX w0 yb fuel k (tr ta) (tr td)):DR w0 yb fuel (.n2 k n a d) vs:=by
 intro b vals ps st nv w hx hin aZ hlen hs he hq
 obtain ⟨c,pa,pd,eW,mr,rY⟩:=SH hx
 have hne:b≠yb:=by have:=hin.ob.hyb;have:=eW.hb;omega
 have SC:c≠yb:=by have:=hin.ob.hyb;have:=eW.hg;omega
 have qj:ev fuel ((KE.n2 k n a d).pt []) (cu vals) st=rJ fuel k [a.pt [],d.pt []] (cu vals) { st with steps:=st.steps+1 }:=by
  simp only [KE.pt]
  rw [mK fuel _ k _ _ _ (cu vals) st hk1 hk2 qt,jy he hq]
 rw [qj,BI]
 have hs':=hs.step hq
 have hr1:=kg (fuel:=fuel) iG hvl vals { st with steps:=st.steps+1 } (fun _=>aZ)
 have h1:=fun cz w2 (bq:dE w0 w2 yb vals ps fuel { st with steps:=st.steps+1 } cz)=>aM pa vals ps { st with steps:=st.steps+1 } cz w2 mr bq (fun _=>aZ) hlen hs'
 have hs2:=hs'.on (a.pt []) (cu vals)
 generalize ev fuel (a.pt []) (cu vals) { st with steps:=st.steps+1 }=r1 at *
 have eH:=kg (fuel:=fuel) htd hvl vals r1.2 (fun _=>aZ)
 have h2:=fun cz w2 (bq:dE w0 w2 yb vals ps fuel r1.2 cz)=>NJ pd vals ps r1.2 cz w2 rY bq (fun _=>aZ) hlen hs2
 have hs3:=hs2.on (d.pt []) (cu vals)
 generalize ev fuel (d.pt []) (cu vals) r1.2=r2 at *
 obtain ⟨R,hR⟩:∃ R,R=if r2.2.e≠0 then (Vl.n 0,r2.2) else cA k [r1.1,r2.1] r2.2:=⟨_,rfl⟩
 rw [<- hR]
 have QR:Hid (r2.2.e=0->R=cA k [r1.1,r2.1] r2.2):=fun h=>by rw [hR,if_neg (fun g=>g h)]
 have P5:Hid (r2.2.e≠0->R=(Vl.n 0,r2.2)):=fun h=>by rw [hR,if_pos h]
 have hm:∀ (cz:Value) (w2:World) (p1 p2:Nat),r2.2.e=0->dE w0 w2 yb vals ps fuel r2.2 cz->dD w2 r1.1 p1->dD w2 r2.1 p2 ->
   Calls Tryz.prog 50 #[.pointer (some ⟨yb,0,none⟩),.pointer (some ⟨b,0,none⟩),.pointer (some ⟨p1,0,none⟩),.pointer (some ⟨p2,0,none⟩)] w2 fun e w'=>∃ r,e=.returned (.pointer (some ⟨r,0,none⟩))/\cO w2 w' yb cz cz/\dE w0 w' yb vals ps fuel (cA k [r1.1,r2.1] r2.2).2 cz/\dD w' (cA k [r1.1,r2.1] r2.2).1 r:=by
  intro cz w2 p1 p2 e bq Iq YN
  have a2:=eH.1 e
  exact YM b c n [pa,pd] vals ps r2.2 cz w2 r1.1 r2.1 p1 p2 eW bq hs3 (hr1.1 a2.1).2 a2.2 Iq YN
 have cG:=eW.on hin.ob.b0
 have x0:=cG.c0
 have Pt:=cG.hb
 have xl2:=cG.hg
 have q0:((bs k.bytes).toList == [])=false:=by rw [aU];cases k <;> decide
 have q1:((bs k.bytes).toList == [120])=false:=by rw [aU];cases k <;> decide
 have q2:((bs k.bytes).toList == [108,101,116])=false:=by rw [aU];cases k <;> first | decide | exact absurd rfl hk1
 have q3:((bs k.bytes).toList == [105,102])=false:=by rw [aU];cases k <;> first | decide | exact absurd rfl hk2
 have q4:((bs k.bytes).toList == [108,111,111,112])=false:=by rw [aU];cases k <;> first | decide | exact absurd rfl qt
 have y1:w.cell? ⟨yb,1,none⟩=some (.int .i64 fuel):=by rw [aa hin.ob.y];rfl
 have y2:w.cell? ⟨yb,2,none⟩=some (.int .i64 st.steps):=by rw [aa hin.ob.y];rfl
 have y4:w.cell? ⟨yb,4,none⟩=some (.bool false):=by rw [aa hin.ob.y];simp [dB,he]
 have f2:w.frozen? ⟨yb,2,none⟩=false:=ag hin.ob.y 2
 have nP:=af hin.ob.y
 have q9:((st.steps:Int) == (fuel:Int))=false:=by rw [beq_eq_false_iff_ne];omega
 have zH:=hs.s
 have Su:=hs.f
 have HK:Hid _:=eW
 have zI:Hid _:=fun m=>hin.begin m
 have V7:Hid _:=hin.ob.b0.size
 have H1:Hid _:=h1
 have H2:Hid _:=h2
 have HM:Hid _:=hm
 clear eW cG hx hin aZ hs he qj hq mr rY aM NJ hs' hs2 hs3 hr1 eH h1 h2 hm hlen YM hR iG htd
 go_enter Tryz.func29,Tryz.ntmps29
 go_wp2_with fail
 go_quiet (fail)
 go_wp2_with fail
 have YO:Hid _:=zI.out nq
 have HNQ:Hid _:=sZ w nq ⟨yb,2,none⟩ (.int .i64 ((st.steps:Int)+1)) Ra
 clear zI x0 y1 y2 y4 f2
 generalize hQ:w.heap.size=Q at *
 go_loopw [11] (fun i wr=>∃ (j:Nat) (gK:Value),i=.int .i64 j/\cO w wr yb nv gK/\((j=0/\dE w0 wr yb vals ps fuel { st with steps:=st.steps+1 } gK/\wr.heap[Q]?=some (x9 (.pointer none) (.pointer none)))\/(j=1/\∃ p1:Nat,dE w0 wr yb vals ps fuel r1.2 gK/\wr.heap[Q]?=some (x9 (.pointer (some ⟨p1,0,none⟩)) (.pointer none))/\dD wr r1.1 p1)\/(j=2/\∃ p1 p2:Nat,dE w0 wr yb vals ps fuel r2.2 gK/\wr.heap[Q]?=some (x9 (.pointer (some ⟨p1,0,none⟩)) (.pointer (some ⟨p2,0,none⟩)))/\dD wr r1.1 p1/\dD wr r2.1 p2))) (fun i _=>2 - (intOf i).toNat)
 case atStart=>exact ⟨0,nv,rfl,YO.out.2,Or.inl ⟨rfl,YO.out.1,HNQ.out⟩⟩
 case round =>
  obtain ⟨j,gK,rfl,hfr,hP⟩:=hrel
  have HF:Hid _:=hfr
  rcases hP with ⟨rfl,bT,AA⟩ | ⟨rfl,p1,bT,AA,Iq⟩ | ⟨rfl,p1,p2,bT,AA,Iq,YN⟩
  ·have cG:=HK.out.on bT.ob.b0
   have u2:=cG.c2
   have uk:=cG.ck 0 pa rfl
   have YI:=cG.hb
   have YJ:=cG.hg
   have HI:Hid _:=bT
   have SJ:Hid _:=AA
   have HC:Hid _:=H1.out gK wr bT
   clear hfr bT AA cG
   go_wp2_with fail
   refine Calls.mono HC.out ?_
   rintro _ w2 ⟨r,FM,rfl,eG,nS,Ir⟩
   have vS:w2.heap[Q]?=some (x9 (.pointer none) (.pointer none)):=HI.out.ob.other eG (by decide) (by decide) SJ.out
   have ql:=af vS
   have qf:w2.frozen? ⟨Q,0,none⟩=false:=ag vS 0
   have qc:w2.cell? ⟨Q,0,none⟩=some (.pointer none):=by rw [aa vS];rfl
   have NU:w0.heap.size<=Q:=by have:=V7.out;omega
   have fS:Hid _:=(HF.out.trans eG).Gl (q:=Q) (o:=0) (x:=.pointer (some ⟨r,0,none⟩)) (by omega)
   have iZ:Hid _:=nS.ko (o:=0) (x:=.pointer (some ⟨r,0,none⟩)) vS NU
   have Rf:Hid _:=Ir.ko (o:=0) (x:=.pointer (some ⟨r,0,none⟩)) vS
   have YP:Hid ((w2.setCell ⟨Q,0,none⟩ (.pointer (some ⟨r,0,none⟩))).heap[Q]?=some (x9 (.pointer (some ⟨r,0,none⟩)) (.pointer none))):=(ay vS 0 _).trans rfl
   clear eG nS Ir vS HC HI SJ
   go_wp2
   go_roundw
   case rel=>exact ⟨1,FM,by first | rfl | go_num,fS.out,Or.inr (Or.inl ⟨rfl,r,iZ.out,YP.out,Rf.out⟩)⟩
   case measure=>simp [intOf]
  ·have cG:=HK.out.on bT.ob.b0
   have u2:=cG.c2
   have uk:=cG.ck 1 pd rfl
   have YI:=cG.hb
   have YJ:=cG.hg
   have HI:Hid _:=bT
   have SJ:Hid _:=AA
   have HV1:Hid _:=Iq
   have HC:Hid _:=H2.out gK wr bT
   clear hfr bT AA cG Iq
   go_wp2_with fail
   refine Calls.mono HC.out ?_
   rintro _ w2 ⟨r,FM,rfl,eG,nS,Ir⟩
   have vS:w2.heap[Q]?=some (x9 (.pointer (some ⟨p1,0,none⟩)) (.pointer none)):=HI.out.ob.other eG (by decide) (by decide) SJ.out
   have ql:=af vS
   have qf:w2.frozen? ⟨Q,1,none⟩=false:=ag vS 1
   have qc:w2.cell? ⟨Q,1,none⟩=some (.pointer none):=by rw [aa vS];rfl
   have NU:w0.heap.size<=Q:=by have:=V7.out;omega
   have fS:Hid _:=(HF.out.trans eG).Gl (q:=Q) (o:=1) (x:=.pointer (some ⟨r,0,none⟩)) (by omega)
   have iZ:Hid _:=nS.ko (o:=1) (x:=.pointer (some ⟨r,0,none⟩)) vS NU
   have Rf:Hid _:=Ir.ko (o:=1) (x:=.pointer (some ⟨r,0,none⟩)) vS
   have HV6:Hid _:=(HV1.out.fr HI.out.ob eG).ko (o:=1) (x:=.pointer (some ⟨r,0,none⟩)) vS
   have YP:Hid ((w2.setCell ⟨Q,1,none⟩ (.pointer (some ⟨r,0,none⟩))).heap[Q]?=some (x9 (.pointer (some ⟨p1,0,none⟩)) (.pointer (some ⟨r,0,none⟩)))):=(ay vS 1 _).trans rfl
   clear eG nS Ir vS HC HI SJ HV1
   go_wp2
   go_roundw
   case rel=>exact ⟨2,FM,by first | rfl | go_num,fS.out,Or.inr (Or.inr ⟨rfl,p1,r,iZ.out,YP.out,HV6.out,Rf.out⟩)⟩
   case measure=>simp [intOf]
  ·have cG:=HK.out.on bT.ob.b0
   have u2:=cG.c2
   have YI:=cG.hb
   have YJ:=cG.hg
   have e4:wr.cell? ⟨yb,4,none⟩=some (.bool (decide (r2.2.e≠0))):=by rw [aa bT.ob.y];rfl
   have U4:=af bT.ob.y
   have qa:wr.cell? ⟨Q,0,none⟩=some (.pointer (some ⟨p1,0,none⟩)):=by rw [aa AA];rfl
   have qb:wr.cell? ⟨Q,1,none⟩=some (.pointer (some ⟨p2,0,none⟩)):=by rw [aa AA];rfl
   have ql:=af AA
   have HI:Hid _:=bT
   by_cases he2:r2.2.e=0
   ·rw [show decide (r2.2.e≠0)=false by simp [he2]] at e4
    have HC:Hid _:=HM.out gK wr p1 p2 he2 bT Iq YN
    have HR:Hid _:=QR.out he2
    clear hfr bT AA cG Iq YN he2
    go_wp2_with fail
    refine Calls.mono HC.out ?_
    rintro _ w2 ⟨r,rfl,eG,nS,Ir⟩
    have fS:Hid _:=HF.out.trans eG
    have iZ:Hid _:=nS
    have Rf:Hid _:=Ir
    clear eG nS Ir HC
    go_wp2
    go_ret
    rw [HR.out]
    exact ⟨r,gK,rfl,fS.out,iZ.out,Rf.out⟩
   ·rw [show decide (r2.2.e≠0)=true by simp [he2]] at e4
    have HR:Hid _:=P5.out he2
    clear hfr bT AA cG Iq YN he2
    go_wp2
    go_ret
    rw [HR.out]
    have qA:=bf (Below.refl _ wr) Ps
    exact ⟨wr.heap.size,gK,rfl,HF.out.trans (cO.below qA _ _),HI.out.grow qA,aj wr Ps⟩
theorem Iu {w0:World} (yb fuel:Nat) (vs:List Nat) (k:Kw) (a:KE) (ta:Nat) (hk1:k≠.aT) (hk2:k≠.dQ) (qt:k≠.loop) (iG:KT vs a ta) (hvl:vs.length<=100) (aM:Ko w0 yb fuel a vs) (YM:NN w0 yb fuel k (tr ta)):DR w0 yb fuel (.n1 k a) vs:=by
 intro b vals ps st nv w hx hin aZ hlen hs he hq
 obtain ⟨c,pa,eW,mr⟩:=YF hx
 have hne:b≠yb:=by have:=hin.ob.hyb;have:=eW.hb;omega
 have SC:c≠yb:=by have:=hin.ob.hyb;have:=eW.hg;omega
 have qj:ev fuel ((KE.n1 k a).pt []) (cu vals) st=rJ fuel k [a.pt []] (cu vals) { st with steps:=st.steps+1 }:=by
  simp only [KE.pt]
  rw [mK fuel _ k _ _ _ (cu vals) st hk1 hk2 qt,jy he hq]
 rw [qj,BH]
 have hs':=hs.step hq
 have hr1:=kg (fuel:=fuel) iG hvl vals { st with steps:=st.steps+1 } (fun _=>aZ)
 have h1:=fun cz w2 (bq:dE w0 w2 yb vals ps fuel { st with steps:=st.steps+1 } cz)=>aM pa vals ps { st with steps:=st.steps+1 } cz w2 mr bq (fun _=>aZ) hlen hs'
 generalize ev fuel (a.pt []) (cu vals) { st with steps:=st.steps+1 }=r1 at *
 obtain ⟨R,hR⟩:∃ R,R=if r1.2.e≠0 then (Vl.n 0,r1.2) else cA k [r1.1] r1.2:=⟨_,rfl⟩
 rw [<- hR]
 have QR:Hid (r1.2.e=0->R=cA k [r1.1] r1.2):=fun h=>by rw [hR,if_neg (fun g=>g h)]
 have P5:Hid (r1.2.e≠0->R=(Vl.n 0,r1.2)):=fun h=>by rw [hR,if_pos h]
 have hm:∀ (cz:Value) (w2:World) (p1:Nat),r1.2.e=0->dE w0 w2 yb vals ps fuel r1.2 cz->dD w2 r1.1 p1 ->
   Calls Tryz.prog 50 #[.pointer (some ⟨yb,0,none⟩),.pointer (some ⟨b,0,none⟩),.pointer (some ⟨p1,0,none⟩),.pointer none] w2 fun e w'=>∃ r,e=.returned (.pointer (some ⟨r,0,none⟩))/\cO w2 w' yb cz cz/\dE w0 w' yb vals ps fuel (cA k [r1.1] r1.2).2 cz/\dD w' (cA k [r1.1] r1.2).1 r:=by
  intro cz w2 p1 e bq Iq
  exact YM b c 0 [pa] vals ps r1.2 cz w2 r1.1 p1 eW bq (hr1.1 e).2 Iq
 have cG:=eW.on hin.ob.b0
 have x0:=cG.c0
 have Pt:=cG.hb
 have xl2:=cG.hg
 have q0:((bs k.bytes).toList == [])=false:=by rw [aU];cases k <;> decide
 have q1:((bs k.bytes).toList == [120])=false:=by rw [aU];cases k <;> decide
 have q2:((bs k.bytes).toList == [108,101,116])=false:=by rw [aU];cases k <;> first | decide | exact absurd rfl hk1
 have q3:((bs k.bytes).toList == [105,102])=false:=by rw [aU];cases k <;> first | decide | exact absurd rfl hk2
 have q4:((bs k.bytes).toList == [108,111,111,112])=false:=by rw [aU];cases k <;> first | decide | exact absurd rfl qt
 have y1:w.cell? ⟨yb,1,none⟩=some (.int .i64 fuel):=by rw [aa hin.ob.y];rfl
 have y2:w.cell? ⟨yb,2,none⟩=some (.int .i64 st.steps):=by rw [aa hin.ob.y];rfl
 have y4:w.cell? ⟨yb,4,none⟩=some (.bool false):=by rw [aa hin.ob.y];simp [dB,he]
 have f2:w.frozen? ⟨yb,2,none⟩=false:=ag hin.ob.y 2
 have nP:=af hin.ob.y
 have q9:((st.steps:Int) == (fuel:Int))=false:=by rw [beq_eq_false_iff_ne];omega
 have zH:=hs.s
 have Su:=hs.f
 have HK:Hid _:=eW
 have zI:Hid _:=fun m=>hin.begin m
 have V7:Hid _:=hin.ob.b0.size
 have H1:Hid _:=h1
 have HM:Hid _:=hm
 clear eW cG hx hin aZ hs he qj hq mr aM hs' hr1 h1 hm hlen YM hR iG
 go_enter Tryz.func29,Tryz.ntmps29
 go_wp2_with fail
 go_quiet (fail)
 go_wp2_with fail
 have YO:Hid _:=zI.out nq
 have HNQ:Hid _:=sZ w nq ⟨yb,2,none⟩ (.int .i64 ((st.steps:Int)+1)) Ra
 clear zI x0 y1 y2 y4 f2
 generalize hQ:w.heap.size=Q at *
 go_loopw [11] (fun i wr=>∃ (j:Nat) (gK:Value),i=.int .i64 j/\cO w wr yb nv gK/\((j=0/\dE w0 wr yb vals ps fuel { st with steps:=st.steps+1 } gK/\wr.heap[Q]?=some (x9 (.pointer none) (.pointer none)))\/(j=1/\∃ p1:Nat,dE w0 wr yb vals ps fuel r1.2 gK/\wr.heap[Q]?=some (x9 (.pointer (some ⟨p1,0,none⟩)) (.pointer none))/\dD wr r1.1 p1))) (fun i _=>1 - (intOf i).toNat)
 case atStart=>exact ⟨0,nv,rfl,YO.out.2,Or.inl ⟨rfl,YO.out.1,HNQ.out⟩⟩
 case round =>
  obtain ⟨j,gK,rfl,hfr,hP⟩:=hrel
  have HF:Hid _:=hfr
  rcases hP with ⟨rfl,bT,AA⟩ | ⟨rfl,p1,bT,AA,Iq⟩
  ·have cG:=HK.out.on bT.ob.b0
   have u2:=cG.c2
   have uk:=cG.ck 0 pa rfl
   have YI:=cG.hb
   have YJ:=cG.hg
   have HI:Hid _:=bT
   have SJ:Hid _:=AA
   have HC:Hid _:=H1.out gK wr bT
   clear hfr bT AA cG
   go_wp2_with fail
   refine Calls.mono HC.out ?_
   rintro _ w2 ⟨r,FM,rfl,eG,nS,Ir⟩
   have vS:w2.heap[Q]?=some (x9 (.pointer none) (.pointer none)):=HI.out.ob.other eG (by decide) (by decide) SJ.out
   have ql:=af vS
   have qf:w2.frozen? ⟨Q,0,none⟩=false:=ag vS 0
   have qc:w2.cell? ⟨Q,0,none⟩=some (.pointer none):=by rw [aa vS];rfl
   have NU:w0.heap.size<=Q:=by have:=V7.out;omega
   have fS:Hid _:=(HF.out.trans eG).Gl (q:=Q) (o:=0) (x:=.pointer (some ⟨r,0,none⟩)) (by omega)
   have iZ:Hid _:=nS.ko (o:=0) (x:=.pointer (some ⟨r,0,none⟩)) vS NU
   have Rf:Hid _:=Ir.ko (o:=0) (x:=.pointer (some ⟨r,0,none⟩)) vS
   have YP:Hid ((w2.setCell ⟨Q,0,none⟩ (.pointer (some ⟨r,0,none⟩))).heap[Q]?=some (x9 (.pointer (some ⟨r,0,none⟩)) (.pointer none))):=(ay vS 0 _).trans rfl
   clear eG nS Ir vS HC HI SJ
   go_wp2
   go_roundw
   case rel=>exact ⟨1,FM,by first | rfl | go_num,fS.out,Or.inr ⟨rfl,r,iZ.out,YP.out,Rf.out⟩⟩
   case measure=>simp [intOf]
  ·have cG:=HK.out.on bT.ob.b0
   have u2:=cG.c2
   have YI:=cG.hb
   have YJ:=cG.hg
   have e4:wr.cell? ⟨yb,4,none⟩=some (.bool (decide (r1.2.e≠0))):=by rw [aa bT.ob.y];rfl
   have U4:=af bT.ob.y
   have qa:wr.cell? ⟨Q,0,none⟩=some (.pointer (some ⟨p1,0,none⟩)):=by rw [aa AA];rfl
   have qb:wr.cell? ⟨Q,1,none⟩=some (.pointer none):=by rw [aa AA];rfl
   have ql:=af AA
   have HI:Hid _:=bT
   by_cases he2:r1.2.e=0
   ·rw [show decide (r1.2.e≠0)=false by simp [he2]] at e4
    have HC:Hid _:=HM.out gK wr p1 he2 bT Iq
    have HR:Hid _:=QR.out he2
    clear hfr bT AA cG Iq he2
    go_wp2_with fail
    refine Calls.mono HC.out ?_
    rintro _ w2 ⟨r,rfl,eG,nS,Ir⟩
    have fS:Hid _:=HF.out.trans eG
    have iZ:Hid _:=nS
    have Rf:Hid _:=Ir
    clear eG nS Ir HC
    go_wp2
    go_ret
    rw [HR.out]
    exact ⟨r,gK,rfl,fS.out,iZ.out,Rf.out⟩
   ·rw [show decide (r1.2.e≠0)=true by simp [he2]] at e4
    have HR:Hid _:=P5.out he2
    clear hfr bT AA cG Iq he2
    go_wp2
    go_ret
    rw [HR.out]
    have qA:=bf (Below.refl _ wr) Ps
    exact ⟨wr.heap.size,gK,rfl,HF.out.trans (cO.below qA _ _),HI.out.grow qA,aj wr Ps⟩
theorem Rg {w0:World} (yb fuel:Nat):∀ {vs:List Nat} {x:KE} {t:Nat},KT vs x t->vs.length<=100->Ko w0 yb fuel x vs:=by
 intro vs x t h
 induction h with
 | num _=>intro _;exact lq (Rb yb fuel _ _)
 | var h=>intro hl;exact lq (Rc yb fuel _ _ (List.getElem?_eq_some_iff.1 h).1 (by omega))
 | aT _ hl h1 _ ha hb=>intro _;exact lq (Re yb fuel _ _ _ _ h1 hl (ha (by omega)) (hb (by simp;omega)))
 | dQ h1 _ _ ha hb hc=>intro hl;exact lq (Vm yb fuel _ _ _ _ h1 hl (ha hl) (hb hl) (hc hl))
 | loop hl h1 h2 h3 ha hb hc=>intro _;exact lq (NL yb fuel _ _ _ _ _ h1 h2 h3 hl (ha (by omega)) (hb (by omega)) (hc (by simp;omega)))
 | pair _ _ h1 h2 ha hb=>intro hl;exact lq (vR yb fuel _ .pair 0 _ _ _ _ (by decide) (by decide) (by decide) h1 h2 hl (ha hl) (hb hl) (Gi yb fuel _ _))
 | fst h0 hp h1 ha=>intro hl;exact lq (Iu yb fuel _ .fst _ _ (by decide) (by decide) (by decide) h1 hl (ha hl) (by rw [mJ hp h0];exact Kt yb fuel _ _ _))
 | snd h0 hp h1 ha=>intro hl;exact lq (Iu yb fuel _ .snd _ _ (by decide) (by decide) (by decide) h1 hl (ha hl) (by rw [mJ hp h0];exact Ku yb fuel _ _ _))
 | two hk h1 h2 ha hb =>
  intro hl
  rcases hk with rfl | rfl | rfl
  ·exact lq (vR yb fuel _ .add 0 _ _ _ _ (by decide) (by decide) (by decide) h1 h2 hl (ha hl) (hb hl) (Kv yb fuel))
  ·exact lq (vR yb fuel _ .sub 0 _ _ _ _ (by decide) (by decide) (by decide) h1 h2 hl (ha hl) (hb hl) (Kx yb fuel))
  ·exact lq (vR yb fuel _ .less 0 _ _ _ _ (by decide) (by decide) (by decide) h1 h2 hl (ha hl) (hb hl) (Gk yb fuel))
theorem kE {w:World} {q:Nat} {S:ByteArray} {a b c d:Int} (h:w.heap[q]?=some (.cells #[.string S,.int .i64 a,.int .i64 b,.int .i64 c,.int .i64 d] 35)) :
  w.cell? ⟨q,0,none⟩=some (.string S)/\w.cell? ⟨q,1,none⟩=some (.int .i64 a)/\w.cell? ⟨q,2,none⟩=some (.int .i64 b)/\w.cell? ⟨q,3,none⟩=some (.int .i64 c)/\w.cell? ⟨q,4,none⟩=some (.int .i64 d):=by
 refine ⟨?_,?_,?_,?_,?_⟩ <;> (rw [aa h];rfl)
theorem Vq (w:World) (x1:Option Addr) (n1 c1:Nat) (x2:Option Addr) (n2 c2:Nat) (fuel:Nat) (hf:fuel<=20000) (S:ByteArray) (a b c d E:Int)
  (hrun:∀ w',Below w.heap.size w w'->Calls Tryz.prog 48 #[aJ (.slice x1 n1 c1) (.slice x2 n2 c2),.int .i64 fuel] w' fun e w''=>e=.returned (.tuple #[.agg #[.string S,.int .i64 a,.int .i64 b,.int .i64 c,.int .i64 d],.int .i64 E])/\Below w'.heap.size w' w'') :
  Calls Tryz.prog 28 #[aJ (.slice x1 n1 c1) (.slice x2 n2 c2),.int .i64 fuel] w fun e w'=>e=.returned (.tuple #[.agg #[.string S,.int .i64 a,.int .i64 b,.int .i64 c,.int .i64 d],.int .i64 E])/\Below w.heap.size w w':=by
 have HR:Hid _:=hrun
 clear hrun
 unfold aJ at HR
 unfold aJ
 go_enter Tryz.func28,Tryz.ntmps28
 go_wp2_with fail
 refine Calls.mono (HR.out _ (aE (aE (Below.refl _ _) _) _)) ?_
 rintro _ w2 ⟨rfl,hb2⟩
 have hq:w2.heap[w.heap.size+1]?=some (.cells #[.string ⟨#[]⟩,.int .i64 0,.int .i64 0,.int .i64 0,.int .i64 0] 35):=by
  rw [hb2.block _ (by simp)]
  have:=aj (w.alloc (.cells #[.slice x1 n1 c1,.slice x2 n2 c2] 62)) (.cells #[.string ⟨#[]⟩,.int .i64 0,.int .i64 0,.int .i64 0,.int .i64 0] 35)
  simpa using this
 have hB:Below w.heap.size w w2:=(aE (aE (Below.refl _ w) (.cells #[.slice x1 n1 c1,.slice x2 n2 c2] 62)) (.cells #[.string ⟨#[]⟩,.int .i64 0,.int .i64 0,.int .i64 0,.int .i64 0] 35)).trans (hb2.mono (by simp;omega))
 have HB:Hid _:=hB
 have hle:w.heap.size<=w.heap.size+1:=by omega
 have K4:Hid _:=hle
 clear hb2 hB hle HR
 generalize w.heap.size+1=q at *
 go_wp2_with (refine jq rfl 35 (.tmp 4) (.tmp 16) rfl q #[.string S,.int .i64 a,.int .i64 b,.int .i64 c,.int .i64 d] rfl rfl 35 _ hq Tryz.vN rfl (by simp [Value.oneCell']) ?_;intro W hW lH mP hW1 hW2 hW3)
 obtain ⟨s0,s1,s2,s3,s4⟩:=kE hW
 have Cj:Hid _:=fp HB.out K4.out lH mP hW1 hW2 hW3
 clear hW lH mP hW1 hW2 hW3 HB hq
 go_wp2
 refine bodyPost_ret (v:=.tuple #[.agg #[.string S,.int .i64 a,.int .i64 b,.int .i64 c,.int .i64 d],.int .i64 E]) (by simp [results,Tryz.results28,go_sem,s0,s1,s2,s3,s4]) rfl ⟨rfl,Cj.out⟩
theorem DZ (k:Kw):Wt.region ∉ bV k false:=by cases k <;> decide
mutual
theorem PE.plain:∀ {l:List Tk} {e:PT} {r:List Tk},PE false l e r->(∀ t∈l,mg t)->(e.jr/\cS e)/\∀ t∈r,mg t
 | _,_,_,.num (t:=t) h,ha=>⟨⟨by simp only [PT.jr];exact (ha t (by simp)).1 h,.num⟩,fun x hx=>ha x (by simp [hx])⟩
 | _,_,_,.name (t:=t) h,ha=>⟨⟨by simp [PT.jr],.name⟩,fun x hx=>ha x (by simp [hx])⟩
 | _,_,_,.node (k:=k) _ _ h3 h4,ha=>by
  have h:=PW.plain h4 (DZ k) (fun x hx=>ha x (by simp [hx]))
  refine ⟨⟨by simp only [PT.jr];exact ⟨by rw [h.1];decide,h.2.1⟩,.node (fun e=>by subst e;exact h3 rfl) h.2.2.1⟩,h.2.2.2⟩
theorem PW.plain:∀ {ws:List Wt} {l:List Tk} {nm rg:List UInt8} {kids:List PT} {r:List Tk},PW false ws l nm rg kids r->Wt.region ∉ ws->(∀ t∈l,mg t)->rg=[]/\cL kids/\(∀ x∈kids,cS x)/\∀ t∈r,mg t
 | _,_,_,_,_,_,.nil,_,ha=>⟨rfl,by simp [cL],by simp,ha⟩
 | _,_,_,_,_,_,.close _ h1,hn,ha=>PW.plain h1 (fun h=>hn (by simp [h])) (fun x hx=>ha x (by simp [hx]))
 | _,_,_,_,_,_,.name _ h1,hn,ha=>PW.plain h1 (fun h=>hn (by simp [h])) (fun x hx=>ha x (by simp [hx]))
 | _,_,_,_,_,_,.region _ h1,hn,ha=>absurd (by simp) hn
 | _,_,_,_,_,_,.e h0 h1,hn,ha=>by
  have a:=PE.plain h0 ha
  have b:=PW.plain h1 (fun h=>hn (by simp [h])) a.2
  refine ⟨b.1,by simp only [cL];exact ⟨a.1.1,b.2.1⟩,?_,b.2.2.2⟩
  intro x hx
  rcases List.mem_cons.1 hx with rfl | hx
  ·exact a.1.2
  ·exact b.2.2.1 x hx
end
theorem Vr {e:PT} (hw:e.wf) (h:(cC e).1=0):∃ T,WT [] e T/\T.size<=63:=by
 unfold cC at h
 split at h
 ·simp at h
 ·have:=jl (List.range e.bK) e 0 0 [] (CO e) hw h
  exact ⟨_,this.2.2,by rw [eM];exact this.2.1⟩
abbrev vo:Obj:=.cells #[.string ⟨#[]⟩,.int .i64 0,.int .i64 0,.int .i64 0,.int .i64 0] 35 (0,0)
theorem lu {B:Nat} {w W:World} (h:Below B w W) (p:Addr) (hp:B<=p.block) (x:Value):Below B w (W.setCell p x):=h.setCell hp x
theorem Gm (w:World) (x:KE) (t p fuel:Nat) (mG:fuel<=20000) (hT:KT [] x t) (hk:eS w x p) (hit:∀ W,Below w.heap.size w W->wH W) (R:Vl × bY) (hR:R=ev fuel (x.pt []) [] ⟨0,0,0⟩) :
  Calls Tryz.prog 14 #[.pointer (some ⟨p,0,none⟩),.int .i64 fuel] w fun e w'=>e=.returned (.tuple #[qw R,.bool (decide (R.2.e=0))])/\Below w.heap.size w w':=by
 have hb0:Below w.heap.size w (w.alloc vo):=bf (Below.refl _ _) _
 have hs0:(w.alloc vo).heap.size=w.heap.size+1:=by simp
 have hin:dE (w.alloc vo) ((w.alloc vo).alloc (.cells (dB (.slice none 0 0) fuel ⟨0,0,0⟩) 70 (0,0))) (w.heap.size+1) [] [] fuel ⟨0,0,0⟩ (.slice none 0 0):=by
  refine ⟨⟨bf (Below.refl _ _) _,by omega,?_,World.ownsRow_nil _ _ _ _,by simp [Value.ownBlock]⟩,rfl,fun i v p h=>by simp at h⟩
  have:=aj (w.alloc vo) (.cells (dB (.slice none 0 0) fuel ⟨0,0,0⟩) 70 (0,0))
  rw [hs0] at this;exact this
 have hs:sY fuel ⟨0,0,0⟩:=⟨mG,Nat.zero_le _,Nat.le_refl _⟩
 have aZ:oN (cu []) (xV []):=fun s T h=>by simp [look,xV] at h
 have hgo:=Rg (w0:=w.alloc vo) (w.heap.size+1) fuel hT (by simp) p [] [] ⟨0,0,0⟩ _ _ (hk.below hb0) hin (fun _=>aZ) rfl hs
 have hres:=kg (fuel:=fuel) hT (by simp) [] ⟨0,0,0⟩ (fun _=>aZ)
 rw [show cu []=([]:dL) from rfl,<- hR] at hgo hres
 have HGO:Hid _:=hgo
 have jc:Hid _:=hres
 have Sb:Hid _:=hit
 have EV:Hid _:=hb0
 have tD:=(hs.on (x.pt []) [])
 rw [<- hR] at tD
 have HQ0:Hid ((w.alloc vo).heap[w.heap.size]?=some vo):=aj w vo
 clear hgo hin hs aZ hres hit hb0 hk hR hT
 by_cases he:R.2.e=0
 ·have hV:qw R=.agg #[.string (bs R.1.txt),.int .i64 R.2.steps,.int .i64 R.2.cells,.int .i64 R.2.cells,.int .i64 R.2.cells]:=by unfold qw;rw [if_neg (fun h=>h he)]
  rw [hV,show decide (R.2.e=0)=true by simp [he]]
  have HE:Hid _:=he
  clear hV he
  go_enter Tryz.func14,Tryz.ntmps14
  go_wp2_with fail
  refine Calls.mono HGO.out ?_
  rintro _ w2 ⟨r,cz,rfl,hfr,bq,Ks⟩
  have nP:=af bq.ob.y
  have y2:w2.cell? ⟨w.heap.size+1,2,none⟩=some (.int .i64 R.2.steps):=by rw [aa bq.ob.y];rfl
  have y3:w2.cell? ⟨w.heap.size+1,3,none⟩=some (.int .i64 R.2.cells):=by rw [aa bq.ob.y];rfl
  have y4:w2.cell? ⟨w.heap.size+1,4,none⟩=some (.bool false):=by rw [aa bq.ob.y];simp [dB,HE.out]
  have hq:w2.heap[w.heap.size]?=some vo:=by rw [bq.ob.b0.block _ (by omega)];exact HQ0.out
  have dU:Hid (Below w.heap.size w w2):=EV.out.trans (bq.ob.b0.mono EV.out.size)
  have RY:Hid (∀ W,Below w2.heap.size w2 W->Calls Tryz.prog 9 #[.pointer (some ⟨r,0,none⟩)] W fun e w'=>e=.returned (.string (bs R.1.txt))/\Below W.heap.size W w'):=fun W hW=>tY R.1 (tr t) r W (jc.out.1 HE.out).2 (by have:=sX t;omega) (Ks.below hW) (fun W' hW'=>Sb.out W' (dU.out.trans ((hW.trans (hW'.mono hW.size)).mono dU.out.size)))
  have hS:∀ W,Below w2.heap.size w2 W->W.cell? ⟨w.heap.size+1,2,none⟩=some (.int .i64 R.2.steps)/\W.cell? ⟨w.heap.size+1,3,none⟩=some (.int .i64 R.2.cells):=fun W hW=>⟨(hW.cell (p:=⟨w.heap.size+1,2,none⟩) nP).trans y2,(hW.cell (p:=⟨w.heap.size+1,3,none⟩) nP).trans y3⟩
  have TH:∀ W,Below w2.heap.size w2 W->W.cell? ⟨w.heap.size,0,none⟩=some (.string ⟨#[]⟩)/\W.cell? ⟨w.heap.size,1,none⟩=some (.int .i64 0)/\W.cell? ⟨w.heap.size,2,none⟩=some (.int .i64 0)/\W.cell? ⟨w.heap.size,3,none⟩=some (.int .i64 0)/\W.cell? ⟨w.heap.size,4,none⟩=some (.int .i64 0)/\W.frozen? ⟨w.heap.size,0,none⟩=false/\W.frozen? ⟨w.heap.size,1,none⟩=false/\W.frozen? ⟨w.heap.size,2,none⟩=false/\W.frozen? ⟨w.heap.size,3,none⟩=false/\W.frozen? ⟨w.heap.size,4,none⟩=false/\w.heap.size < W.heap.size/\w.heap.size+1 < W.heap.size:=fun W hW=>by
   have NV:=(hW.block _ (af hq)).trans hq
   exact ⟨by rw [aa NV];rfl,by rw [aa NV];rfl,by rw [aa NV];rfl,by rw [aa NV];rfl,by rw [aa NV];rfl,ag NV 0,ag NV 1,ag NV 2,ag NV 3,ag NV 4,af NV,by have:=hW.size;omega⟩
  have V5:=af hq
  have hYQ:w.heap.size+1≠w.heap.size:=by omega
  have hQY:w.heap.size≠w.heap.size+1:=by omega
  have HS:Hid _:=hS
  have V9:Hid _:=TH
  have HQ:Hid _:=hq
  clear hfr bq Ks hq hS TH HGO jc Sb HQ0 EV y2 y3
  generalize w.heap.size+1=Y at *
  generalize hQE:w.heap.size=Q at *
  have HQE:Hid _:=hQE
  clear hQE
  go_wp2_with fail
  have HSa:Hid (w2.cell? ⟨Y,2,none⟩=some (.int .i64 R.2.steps)/\w2.cell? ⟨Y,3,none⟩=some (.int .i64 R.2.cells)):=HS.out w2 (Below.refl _ _)
  have HSb:Hid (∀ m,(w2.drewN m).cell? ⟨Y,2,none⟩=some (.int .i64 R.2.steps)/\(w2.drewN m).cell? ⟨Y,3,none⟩=some (.int .i64 R.2.cells)):=fun m=>HS.out _ (cU w2 m)
  have HSc:Hid (w2.drew.cell? ⟨Y,2,none⟩=some (.int .i64 R.2.steps)/\w2.drew.cell? ⟨Y,3,none⟩=some (.int .i64 R.2.cells)):=HS.out w2.drew ⟨rfl,rfl,rfl,Nat.le_refl _,fun _ _=>rfl⟩
  go_region_held3 (fun W=>W.cell? ⟨Y,2,none⟩=some (.int .i64 R.2.steps)/\W.cell? ⟨Y,3,none⟩=some (.int .i64 R.2.cells)) (first | with_reducible exact HSa.out | with_reducible exact HSb.out _ | with_reducible exact HSc.out | with_reducible exact ⟨t2,t3⟩ | go_keep) (first | (go_at_call 9;refine Calls.mono (RY.out _ ?_) ?_;exact ⟨rfl,rfl,rfl,Nat.le_refl _,fun _ _=>rfl⟩;rintro e w3 ⟨rfl,hb3⟩;obtain ⟨t2,t3⟩:=HS.out w3 ⟨hb3.os,hb3.tape,hb3.output,hb3.size,fun k hk=>hb3.block k hk⟩;obtain ⟨r0,r1,r2,r3,r4,g0,g1,g2,g3,g4,l1,l2⟩:=V9.out w3 ⟨hb3.os,hb3.tape,hb3.output,hb3.size,fun k hk=>hb3.block k hk⟩))
  all_goals
   have K0:w3.heap[Q]?=some vo:=(hb3.block Q V5).trans HQ.out
   have ES:Below Q w w3:=dU.out.trans ((⟨hb3.os,hb3.tape,hb3.output,hb3.size,fun k hk=>hb3.block k hk⟩:Below w2.heap.size w2 w3).mono (by omega))
   obtain ⟨W7,QJ⟩:∃ W7,W7=(((((w3.setCell ⟨Q,0,none⟩ (.string (bs R.1.txt))).setCell ⟨Q,1,none⟩ (.int .i64 R.2.steps)).setCell ⟨Q,2,none⟩ (.int .i64 R.2.cells)).setCell ⟨Q,3,none⟩ (.int .i64 R.2.cells)).setCell ⟨Q,4,none⟩ (.int .i64 R.2.cells)):=⟨_,rfl⟩
   have QK:W7.heap[Q]?=some (.cells #[.string (bs R.1.txt),.int .i64 R.2.steps,.int .i64 R.2.cells,.int .i64 R.2.cells,.int .i64 R.2.cells] 35 (0,0)):=by
    rw [QJ];exact (ay (ay (ay (ay (ay K0 0 _) 1 _) 2 _) 3 _) 4 _).trans rfl
   have K7:Hid (Below Q w W7):=by
    show Below Q w W7
    rw [QJ];exact lu (lu (lu (lu (lu ES _ (Nat.le_refl _) _) _ (Nat.le_refl _) _) _ (Nat.le_refl _) _) _ (Nat.le_refl _) _) _ (Nat.le_refl _) _
   rw [<- QJ]
   obtain ⟨s0,s1,s2,s3,s4⟩:=kE QK
   clear QJ QK K0 ES hb3 t2 t3 r0 r1 r2 r3 r4 g0 g1 g2 g3 g4 l1 l2 y4
   go_wp2
   refine bodyPost_ret (v:=.tuple #[.agg #[.string (bs R.1.txt),.int .i64 R.2.steps,.int .i64 R.2.cells,.int .i64 R.2.cells,.int .i64 R.2.cells],.bool true]) (by simp [results,Tryz.results14,go_sem,s0,s1,s2,s3,s4]) rfl ⟨rfl,by rw [HQE.out];exact K7.out⟩
 ·have hV:qw R=.agg #[.string ⟨#[]⟩,.int .i64 0,.int .i64 0,.int .i64 0,.int .i64 0]:=by unfold qw;rw [if_pos he]
  rw [hV,show decide (R.2.e=0)=false by simp [he]]
  have HE:Hid _:=he
  clear hV he
  go_enter Tryz.func14,Tryz.ntmps14
  go_wp2_with fail
  refine Calls.mono HGO.out ?_
  rintro _ w2 ⟨r,cz,rfl,hfr,bq,Ks⟩
  have nP:=af bq.ob.y
  have y4:w2.cell? ⟨w.heap.size+1,4,none⟩=some (.bool true):=by
   have hne:decide (R.2.e≠0)=true:=decide_eq_true HE.out
   rw [aa bq.ob.y]
   show some (Value.bool (decide (R.2.e≠0)))=_
   rw [hne]
  have hq:w2.heap[w.heap.size]?=some vo:=by rw [bq.ob.b0.block _ (by omega)];exact HQ0.out
  have dU:Hid (Below w.heap.size w w2):=EV.out.trans (bq.ob.b0.mono EV.out.size)
  clear hfr bq Ks HGO jc Sb HQ0 EV
  go_wp2_with (refine jq rfl 35 (.tmp 4) (.tmp 18) rfl w.heap.size #[.string ⟨#[]⟩,.int .i64 0,.int .i64 0,.int .i64 0,.int .i64 0] rfl rfl 35 _ hq Tryz.vN rfl (by simp [Value.oneCell']) ?_;intro W hW lH mP hW1 hW2 hW3)
  obtain ⟨s0,s1,s2,s3,s4⟩:=kE hW
  have Cj:Hid _:=fp dU.out (Nat.le_refl _) lH mP hW1 hW2 hW3
  clear hW lH mP hW1 hW2 hW3 dU hq
  go_wp2
  refine bodyPost_ret (v:=.tuple #[.agg #[.string ⟨#[]⟩,.int .i64 0,.int .i64 0,.int .i64 0,.int .i64 0],.bool false]) (by simp [results,Tryz.results14,go_sem,s0,s1,s2,s3,s4]) rfl ⟨rfl,Cj.out⟩
theorem NW {ae:Bool} {rg:List UInt8} (hr:U8 ae rg) {x:KE} {t:Nat} (h:KT [] x t) (hp:x.bK<=100) :
  ∃ e,PE ae (tokens (x.pt rg).tidy) e []/\cC e=(0,0)/\e.np=x.pt rg/\∀ fuel env st,ev fuel e env st=ev fuel (x.pt []) env st:=by
 obtain ⟨e,he,tu⟩:=BC (x.pt rg) (Nq hr h)
 rw [xU] at tu
 have D1:WT [] (x.pt rg) (tr t):=Ih (rg:=rg) h (by simp)
 refine ⟨e,he,Ge (gW e (by rw [tu];exact D1)) ?_,tu,fun fuel env st=>?_⟩
 ·rw [<- tZ,tu,F7 rg h];exact hp
 ·rw [<- lV,tu,lp]
theorem jz (T A X:List Ty) (U:Ty) (c:Nat) (hc:c=A.length+1):ai (T++(A++[U])++X) (((T.length+c:Nat):Int) - 1)=U:=by
 have e:(((T.length+c:Nat):Int) - 1)=((T.length+A.length:Nat):Int):=by omega
 rw [e]
 refine rB X ?_
 rw [List.getElem?_append_right (by omega),Nat.add_sub_cancel_left,List.getElem?_append_right (by omega),Nat.sub_self];rfl
theorem kn2 (T A B X:List Ty) (U V:Ty) (ca cb:Nat) (hA:A.length+1=ca) (hB:B.length+1=cb) :
  ai (T++((A++[U])++(B++[V]))++X) (((T.length+ca:Nat):Int) - 1)=U/\ai (T++((A++[U])++(B++[V]))++X) (((T.length+ca+cb:Nat):Int) - 1)=V:=by
 constructor
 ·have:=jz T A ((B++[V])++X) U ca hA.symm
  simpa only [List.append_assoc] using this
 ·have:=jz (T++(A++[U])) B X V cb hB.symm
  have hl:(T++(A++[U])).length=T.length+ca:=by simp;omega
  rw [hl] at this
  simpa only [List.append_assoc] using this
theorem kn3 (T A B C X:List Ty) (U V W:Ty) (ca cb cc:Nat) (hA:A.length+1=ca) (hB:B.length+1=cb) (hC:C.length+1=cc) :
  ai (T++((A++[U])++((B++[V])++(C++[W])))++X) (((T.length+ca:Nat):Int) - 1)=U/\ai (T++((A++[U])++((B++[V])++(C++[W])))++X) (((T.length+ca+cb:Nat):Int) - 1)=V/\ai (T++((A++[U])++((B++[V])++(C++[W])))++X) (((T.length+ca+cb+cc:Nat):Int) - 1)=W:=by
 have h1:=kn2 T A B ((C++[W])++X) U V ca cb hA hB
 have h2:=jz (T++(A++[U])++(B++[V])) C X W cc hC.symm
 have hl:(T++(A++[U])++(B++[V])).length=T.length+ca+cb:=by simp;omega
 rw [hl] at h2
 refine ⟨?_,?_,?_⟩
 ·simpa only [List.append_assoc] using h1.1
 ·simpa only [List.append_assoc] using h1.2
 ·simpa only [List.append_assoc] using h2
theorem lW (sc:Sc) (nm:List UInt8) (i:Int) (s:List UInt8):bN (sc++[(nm,i)]) s=if nm=s then i else bN sc s:=by
 unfold bN
 rw [List.reverse_append,List.reverse_singleton,List.singleton_append,List.find?_cons]
 by_cases h:nm=s
 ·subst h;simp
 ·have:(nm == s)=false:=by rw [beq_eq_false_iff_ne];exact h
  simp only [this,if_neg h]
theorem yd {w:World} {base:Nat} {e:TypeId} {size:Nat} {v:Value} {n:Nat} {xs:List Value} (h:w.ownsRow base e size v n xs):∃ a c,v=.slice a n c:=by
 rcases h.2 with ⟨h1,h2⟩ | ⟨g,cap,cur,h1,_⟩
 ·exact ⟨none,0,by rw [h1,h2]⟩
 ·exact ⟨_,_,h1⟩
theorem ub (s:ByteArray) (w:World) (hs:s.size<=9000) (e:PT) (hp:PE true (tokens s.data.toList) e []):Calls Tryz.prog 36 #[.string s] w fun v w'=>∃ x1 n1 c1 x2 n2 c2 ns,v=.returned (.tuple #[aJ (.slice x1 n1 c1) (.slice x2 n2 c2),.int .i64 0,.int .i64 0])/\Below w.heap.size w w'/\bg w' (.slice x1 n1 c1) (.slice x2 n2 c2) ns (opn e 0)/\NA [] e 0 ns:=by
 obtain ⟨ns,bt,A7⟩:=ot (len:=s.size) hp
 have vH:=fun w=>jT s w (by omega)
 have L3:Hid _:=A7
 have yT:Hid _:=bt
 clear hp bt A7
 go_enter Tryz.func36,Tryz.ntmps36
 go_wp2_with fail
 refine (vH _).mono ?_
 rintro v w1 ⟨hb,hv⟩
 have hr:=qp hb
 have hlt:=af hr
 have HB:Hid _:=mh hb
 rcases hv with ⟨q',hq',_⟩ | ⟨_,nv,ov,rfl,hT⟩
 ·rw [L3.out] at hq';cases hq'
 ·rw [L3.out] at hT
  simp only at hT
  obtain ⟨x1,c1,e1⟩:=yd hT.nd
  obtain ⟨x2,c2,e2⟩:=yd hT.op
  have zm:Hid _:=pH hT.nd hr (by decide)
  have qQ:Hid _:=pH hT.op hr (by decide)
  subst e1
  subst e2
  have r0:w1.cell? ⟨w.heap.size,0,none⟩=some (.slice none 0 0):=by rw [aa hr];rfl
  have r1:w1.cell? ⟨w.heap.size,1,none⟩=some (.slice none 0 0):=by rw [aa hr];rfl
  have f0:=ag hr 0
  have f1:=ag hr 1
  have hW:=aN (.cells #[.slice x1 ns.length c1,.slice x2 (opn e 0).length c2] 62) (ay (ay hr 0 (.slice x1 ns.length c1)) 1 (.slice x2 (opn e 0).length c2))
  have S0:Hid ((((w1.setCell ⟨w.heap.size,0,none⟩ (.slice x1 ns.length c1)).setCell ⟨w.heap.size,1,none⟩ (.slice x2 (opn e 0).length c2)).alloc (.cells #[.slice x1 ns.length c1,.slice x2 (opn e 0).length c2] 62)).cell? ⟨w.heap.size,0,none⟩=some (.slice x1 ns.length c1)):=(aa hW 0).trans rfl
  have S1:Hid ((((w1.setCell ⟨w.heap.size,0,none⟩ (.slice x1 ns.length c1)).setCell ⟨w.heap.size,1,none⟩ (.slice x2 (opn e 0).length c2)).alloc (.cells #[.slice x1 ns.length c1,.slice x2 (opn e 0).length c2] 62)).cell? ⟨w.heap.size,1,none⟩=some (.slice x2 (opn e 0).length c2)):=(aa hW 1).trans rfl
  have Yl:bg ((w1.setCell ⟨w.heap.size,0,none⟩ (.slice x1 ns.length c1)).setCell ⟨w.heap.size,1,none⟩ (.slice x2 (opn e 0).length c2)) (.slice x1 ns.length c1) (.slice x2 (opn e 0).length c2) ns (opn e 0):=⟨ax hT.nd (fun k hk=>by rw [ak _ _ (by simpa using zm.out k hk),ak _ _ (by simpa using zm.out k hk)]),ax hT.op (fun k hk=>by rw [ak _ _ (by simpa using qQ.out k hk),ak _ _ (by simpa using qQ.out k hk)])⟩
  have HTS:Hid _:=Yl.below ((Below.refl _ _).alloc (Nat.le_refl _) (.cells #[.slice x1 ns.length c1,.slice x2 (opn e 0).length c2] 62))
  have hne:w.heap.size≠w1.heap.size:=by omega
  unfold aJ
  clear hT hb hr vH hW Yl
  go_wp2
  refine bodyPost_ret (v:=.tuple #[.agg #[.slice x1 ns.length c1,.slice x2 (opn e 0).length c2],.int .i64 0,.int .i64 0]) (by have s0:=S0.out;have s1:=S1.out;simp [results,Tryz.results36,go_sem,s0,s1]) rfl ⟨x1,ns.length,c1,x2,(opn e 0).length,c2,ns,rfl,?_,HTS.out,yT.out⟩
  exact ((HB.out.setCell (p:=⟨w.heap.size,0,none⟩) (Nat.le_refl _) _).setCell (p:=⟨w.heap.size,1,none⟩) (Nat.le_refl _) _).alloc (by have:=HB.out.size;simp [World.setCell];omega) _
theorem vp (s:ByteArray) (w:World) (hs:s.size<=9000) (e:PT) (hp:PE true (tokens s.data.toList) e []):Calls Tryz.prog 26 #[.string s] w fun v w'=>∃ x1 n1 c1 x2 n2 c2 ns,v=.returned (.tuple #[aJ (.slice x1 n1 c1) (.slice x2 n2 c2),.int .i64 (cC e).1,.int .i64 (cC e).2])/\Below w.heap.size w w'/\bg w' (.slice x1 n1 c1) (.slice x2 n2 c2) ns (opn e 0)/\NA [] e 0 ns:=by
 have jL:=jn hp
 have vH:=fun w=>ub s w hs e hp
 have jj:=fun (w:World) (nv ov:Value) (ns:List NR) (bt:NA [] e 0 ns) (h:bg w nv ov ns (opn e 0))=>n9 w nv ov ns (opn e 0) h (zZ bt) (by have:=bt.len;omega) (bt.small (fun _ h=>by simp at h) (by omega)) (fun j n hj=>by have:=bt.back j n hj;simpa using this)
 unfold aJ at vH
 have Cf:Hid _:=jj
 have Ym:Hid _:=vH
 clear hp jj vH
 obtain ⟨ans,cQ⟩:∃ ans,ans=cC e:=⟨_,rfl⟩
 rw [<- cQ]
 have j8:Hid _:=cQ
 clear cQ
 go_enter Tryz.func26,Tryz.ntmps26
 go_wp2_with fail
 refine (Ym.out _).mono ?_
 rintro _ w1 ⟨x1,n1,c1,x2,n2,c2,ns,rfl,hb,hT,bt⟩
 have hr:=qp hb
 have hlt:=af hr
 have HB:Hid _:=mh hb
 have HR:Hid _:=hr
 have zm:Hid _:=pH hT.nd hr (by decide)
 have qQ:Hid _:=pH hT.op hr (by decide)
 have mr:=hT.below ((Below.refl _ w1).alloc (Nat.le_refl _) (.cells #[.slice x1 n1 c1,.slice x2 n2 c2] 62))
 have jj:=Cf.out (w1.alloc (.cells #[.slice x1 n1 c1,.slice x2 n2 c2] 62)) _ _ ns bt mr
 rw [wJ bt,<- j8.out] at jj
 have yT:Hid _:=bt
 unfold aJ at jj
 clear hT hb hr Ym Cf bt
 go_wp2_with fail
 refine jj.mono ?_
 rintro _ w2 ⟨rfl,hb2⟩
 have Ds:Hid _:=mr.below hb2
 have hk:=qp hb2
 have k0:w2.cell? ⟨w1.heap.size,0,none⟩=some (.slice x1 n1 c1):=by rw [aa hk];rfl
 have k1:w2.cell? ⟨w1.heap.size,1,none⟩=some (.slice x2 n2 c2):=by rw [aa hk];rfl
 have eH:w2.heap[w.heap.size]?=some (.cells #[.slice none 0 0,.slice none 0 0] 62 (0,0)):=by
  rw [hb2.block _ (by simp;omega)];exact aN _ HR.out
 have r0:w2.cell? ⟨w.heap.size,0,none⟩=some (.slice none 0 0):=by rw [aa eH];rfl
 have r1:w2.cell? ⟨w.heap.size,1,none⟩=some (.slice none 0 0):=by rw [aa eH];rfl
 have f0:=ag eH 0
 have f1:=ag eH 1
 have lE:Below w.heap.size w w2:=HB.out.trans ((mh hb2).mono HB.out.size)
 have dU:Hid _:=lE
 have hne:w.heap.size≠w1.heap.size:=by omega
 clear hk eH hb2 lE jj mr
 go_wp2
 refine bodyPost_ret (v:=.tuple #[.agg #[.slice x1 n1 c1,.slice x2 n2 c2],.int .i64 ans.1,.int .i64 ans.2]) (by simp [results,Tryz.results26,go_sem,r0,r1]) rfl ⟨x1,n1,c1,x2,n2,c2,ns,rfl,?_,⟨ax Ds.out.nd (fun k hk=>by rw [ak _ _ (by simpa using zm.out k hk),ak _ _ (by simpa using zm.out k hk)]),ax Ds.out.op (fun k hk=>by rw [ak _ _ (by simpa using qQ.out k hk),ak _ _ (by simpa using qQ.out k hk)])⟩,yT.out⟩
 exact (dU.out.setCell (p:=⟨w.heap.size,0,none⟩) (Nat.le_refl _) _).setCell (p:=⟨w.heap.size,1,none⟩) (Nat.le_refl _) _
theorem D2 (s:ByteArray) (fuel:Int) (w:World) (e:PT) (y:Nat) (S:ByteArray) (a b c d E:Int) (UU:∀ w,Calls Tryz.prog 26 #[.string s] w fun v w'=>∃ x1 n1 c1 x2 n2 c2 ns,v=.returned (.tuple #[aJ (.slice x1 n1 c1) (.slice x2 n2 c2),.int .i64 0,.int .i64 y])/\Below w.heap.size w w'/\bg w' (.slice x1 n1 c1) (.slice x2 n2 c2) ns (opn e 0)/\NA [] e 0 ns)
  (rT:∀ (w':World) (x1:Option Addr) (n1 c1:Nat) (x2:Option Addr) (n2 c2:Nat) (ns:List NR),Below w.heap.size w w'->bg w' (.slice x1 n1 c1) (.slice x2 n2 c2) ns (opn e 0)->NA [] e 0 ns->Calls Tryz.prog 28 #[aJ (.slice x1 n1 c1) (.slice x2 n2 c2),.int .i64 fuel] w' fun v w''=>v=.returned (.tuple #[.agg #[.string S,.int .i64 a,.int .i64 b,.int .i64 c,.int .i64 d],.int .i64 E])/\Below w'.heap.size w' w'') :
  Calls Tryz.prog 13 #[.string s,.int .i64 fuel] w fun v w'=>v=.returned (.tuple #[.agg #[.string S,.int .i64 a,.int .i64 b,.int .i64 c,.int .i64 d],.int .i64 E])/\Below w.heap.size w w':=by
 unfold aJ at UU rT
 have HR:Hid _:=UU
 have HN:Hid _:=rT
 clear UU rT
 go_enter Tryz.func13,Tryz.ntmps13
 go_wp2_with fail
 refine (HR.out _).mono ?_
 rintro _ w1 ⟨x1,n1,c1,x2,n2,c2,ns,rfl,hb,hT,bt⟩
 have hq:w1.heap[w.heap.size]?=some (.cells #[.string ⟨#[]⟩,.int .i64 0,.int .i64 0,.int .i64 0,.int .i64 0] 35):=qp hb
 have hB:=mh hb
 obtain ⟨W2,uJ⟩:∃ W2,W2=w1.alloc (.cells #[.slice x1 n1 c1,.slice x2 n2 c2] 62):=⟨_,rfl⟩
 have hb2:Below w1.heap.size w1 W2:=by rw [uJ];exact aE (Below.refl _ _) _
 have YQ:=HN.out W2 x1 n1 c1 x2 n2 c2 ns (hB.trans (hb2.mono hB.size)) (hT.below hb2) bt
 have QR:Hid _:=YQ
 have dU:Hid _:=hB.trans (hb2.mono hB.size)
 have HQ2:Hid (W2.heap[w.heap.size]?=some (.cells #[.string ⟨#[]⟩,.int .i64 0,.int .i64 0,.int .i64 0,.int .i64 0] 35)):=by
  show W2.heap[w.heap.size]?=_
  rw [hb2.block _ (af hq)];exact hq
 clear hb hT bt hq hB hb2 YQ HR HN
 go_wp2_with fail
 rw [<- uJ]
 refine Calls.mono QR.out ?_
 rintro _ w3 ⟨rfl,hb3⟩
 have K0:w3.heap[w.heap.size]?=some (.cells #[.string ⟨#[]⟩,.int .i64 0,.int .i64 0,.int .i64 0,.int .i64 0] 35):=by rw [hb3.block _ (af HQ2.out)];exact HQ2.out
 have iV:Hid _:=dU.out.trans (hb3.mono dU.out.size)
 clear hb3 QR dU HQ2 uJ
 go_wp2_with (refine jq rfl 35 (.tmp 4) (.tmp 22) rfl w.heap.size #[.string S,.int .i64 a,.int .i64 b,.int .i64 c,.int .i64 d] rfl rfl 35 _ K0 Tryz.vN rfl (by simp [Value.oneCell']) ?_;intro W hW lH mP hW1 hW2 hW3)
 obtain ⟨s0,s1,s2,s3,s4⟩:=kE hW
 have Cj:Hid _:=fp iV.out (Nat.le_refl _) lH mP hW1 hW2 hW3
 clear hW lH mP hW1 hW2 hW3 iV K0
 go_wp2
 refine bodyPost_ret (v:=.tuple #[.agg #[.string S,.int .i64 a,.int .i64 b,.int .i64 c,.int .i64 d],.int .i64 E]) (by simp [results,Tryz.results13,go_sem,s0,s1,s2,s3,s4]) rfl ⟨rfl,Cj.out⟩
mutual
theorem vT:∀ t:PT,t.bL->t.vg->t.jr
 | .num _ _,h,_=>by simp only [PT.bL] at h;simp only [PT.jr];exact h
 | .name _ _,_,_=>by simp [PT.jr]
 | .node _ _ _ _ kids,h,h3=>by
  simp only [PT.bL] at h
  simp only [PT.vg] at h3
  simp only [PT.jr]
  exact ⟨by omega,D3 kids h.2 h3.2⟩
theorem D3:∀ ts:List PT,bI ts->xC ts->cL ts
 | [],_,_=>by simp [cL]
 | t::r,h,h3=>by
  simp only [bI] at h
  simp only [xC] at h3
  simp only [cL]
  exact ⟨vT t h.1 h3.1,D3 r h.2 h3.2⟩
end
end Go.Proofs.YtpicaknklgccoabGreatDoor
