import Derived.Test.YtpicaknklgccoabGreatDoorV19
set_option maxHeartbeats 4000000
set_option maxRecDepth 100000
namespace Go.Proofs.YtpicaknklgccoabGreatDoor
open Go.RowKit
theorem fQ (l:List Nat):(jP l).length=l.length:=by simp[jP]
theorem yz (l:List Nat) (v:Nat):jP (l++[v])=jP l++[.int .i64 v]:=by simp[jP]
theorem JE {w0:World} {yb:Nat} {rv:Value} {raw:List Int} (g:Nat->fC->KE × fC) (v t:Nat) (s:fC) (nv:Value) (w:World)
  (hf:∀ (nv:Value) (w:World),cd w0 w yb rv raw { s with vars:=s.vars++[v] } nv->Calls Tryz.prog 23 #[.pointer (some ⟨yb,0,none⟩),.int .i64 t] w λe w'=>∃ p bJ,e=.returned (.pointer (some ⟨p,0,none⟩))/\du w w' yb nv bJ/\cd w0 w' yb rv raw (g t { s with vars:=s.vars++[v] }).2 bJ/\eD w' (g t { s with vars:=s.vars++[v] }).1 p)
  (hg:(g t { s with vars:=s.vars++[v] }).2.vars=s.vars++[v]) (h:cd w0 w yb rv raw s nv) (hvl:s.vars.length<=200) :
  Calls Tryz.prog 39 #[.pointer (some ⟨yb,0,none⟩),.int .i64 v,.int .i64 t] w λe w'=>∃ p bJ,e=.returned (.pointer (some ⟨p,0,none⟩))/\du w w' yb nv bJ/\cd w0 w' yb rv raw (fJ g v t s).2 bJ/\eD w' (fJ g v t s).1 p:=by
 obtain⟨i0,hi,hz0,hz1,hz2⟩:=info_parts Tryz.Ee;have HI:Hid _:=hi;have rR:Hid _:=hz0;have rS:Hid _:=hz1;have rT:Hid _:=hz2;have HH:Hid _:=h;have nV:=af h.ob.y;obtain⟨na,nc,qP,_,_⟩:=h.ob.shape;rw[fQ] at qP
 have y3:w.cell? ⟨yb,3,none⟩=some (.slice na s.vars.length nc):=by rw[aa h.ob.y,<- qP];rfl
 have f3:w.frozen? ⟨yb,3,none⟩=false:=ag h.ob.y 3
 have hown:w.ownsRow 0 3 1 (.slice na s.vars.length nc) s.vars.length (jP s.vars):=by
  have:=dL (base':=0) h.ob.n (λ_ _=>Nat.zero_le _);rw[fQ,qP] at this;exact this
 have Gt:Hid _:=qP;have eK:Hid (w.ownsRow 0 3 1 (.slice na s.vars.length nc) s.vars.length (jP s.vars)):=hown;have YW:Hid _:=hf;have HHG:Hid _:=hg;clear hi hz0 hz1 hz2 hown qP h hf hg
 go_enter Tryz.func39,Tryz.ntmps39
 go_wp2_with (at_builtin;go_must (refine qM _ rfl (.tmp 18) (.tmp 20) 22 rfl 3 i0 _ 1 8 Tryz.Ef HI.out rR.out rS.out rT.out rfl (by decide) (.slice na s.vars.length nc) s.vars.length (jP s.vars) rfl (eK.out.alloc _) ⟨w.heap.size,0,none⟩ 1 1 [.int .i64 v] rfl rfl ?d1 ?d2 (by decide) ?d3 ?d4 ?_))
 case d1 =>
  intro j' u hj'
  match j',hj' with
  | 0,hj'=>simp at hj';subst hj';simp[Addr.add]
  | j'+1,hj'=>simp at hj'
 case d2=>intro u hu;simp at hu;subst hu;rfl
 case d3=>unfold maxLen;omega
 case d4=>omega
 intro g1 c1 w3 Q2 VJ NJ;have fk:=kN.push (x:=.int .i64 v) (o:=3) (W:=w3.setCell ⟨yb,3,none⟩ (.slice (some ⟨g1,0,none⟩) (s.vars.length+1) c1)) HH.out.ob (by rw[Gt.out];exact VJ) (by rw[fQ];exact Q2) (by rw[Gt.out];simpa using NJ) (by rw[fQ]);rw[fQ] at fk;obtain⟨YX,hs1⟩:=fk
 have jD:cd w0 (w3.setCell ⟨yb,3,none⟩ (.slice (some ⟨g1,0,none⟩) (s.vars.length+1) c1)) yb rv raw { s with vars:=s.vars++[v] } (.slice (some ⟨g1,0,none⟩) (s.vars.length+1) c1):=by
  refine⟨HH.out.r,?_⟩;rw[yz];exact YX
 have hcall:=YW.out _ _ jD
 have Rh:w3.heap[yb]?=some (.cells (fq rv s nv) 49 (0,0)):=by
  rw[VJ.block yb (by simp;omega) (λe=>HH.out.ob.ny (by rw[Gt.out];exact e.symm)),Below.heap_alloc _ _ _ nV];exact HH.out.ob.y
 have abh:=af Rh
 have y33:w3.cell? ⟨yb,3,none⟩=some nv:=by rw[aa Rh];rfl
 have f33:w3.frozen? ⟨yb,3,none⟩=false:=ag Rh 3;have HC:Hid _:=hcall;have K3:Hid _:=hs1;clear Q2 VJ NJ YX Rh y3 f3 hcall jD hs1 YW eK
 go_wp2_with fail
 refine Calls.mono HC.out ?_;rintro _ w7 ⟨p,YY,rfl,aY,Ri,YZ⟩;obtain⟨na7,CB,vw,NK,Hg⟩:=Ri.ob.shape;have yA:=Ri.ob;rw[fQ,HHG.out,List.length_append,List.length_singleton] at vw Hg NK;obtain⟨g7,Y0⟩:=Hg (by omega);rw[Y0] at vw
 have y37:w7.cell? ⟨yb,3,none⟩=some (.slice (some ⟨g7,0,none⟩) (s.vars.length+1) CB):=by rw[aa yA.y,<- vw];rfl
 have f37:w7.frozen? ⟨yb,3,none⟩=false:=ag yA.y 3;have abj:=af yA.y;obtain⟨R,hR⟩:∃ R,R=g t { s with vars:=s.vars++[v] }:=⟨_,rfl⟩
 have hP:kN w0 (w7.setCell ⟨yb,3,none⟩ (.slice (some ⟨g7,0,none⟩) s.vars.length CB)) yb (fq rv (fJ g v t s).2 (.slice (some ⟨g7,0,none⟩) s.vars.length CB)) 49 (.slice (some ⟨g7,0,none⟩) s.vars.length CB) 3 (jP s.vars):=by
  have h1:=yA;rw[HHG.out,yz,vw] at h1;have h2:=kN.pop (o:=3) (xs:=jP s.vars) (x:=.int .i64 v) (g:=g7) (cap:=CB) (by rw[fQ];exact h1);rw[fQ] at h2;exact h2
 have XL:(fJ g v t s).2.vars=s.vars:=by unfold fJ;simp only[HHG.out,List.take_left]
 have Hh:Hid (cd w0 (w7.setCell ⟨yb,3,none⟩ (.slice (some ⟨g7,0,none⟩) s.vars.length CB)) yb rv raw (fJ g v t s).2 (.slice (some ⟨g7,0,none⟩) s.vars.length CB)):=⟨HH.out.r,by rw[XL];exact hP⟩;have hfs:=du.ym w7 yb YY 3 (.slice (some ⟨g7,0,none⟩) s.vars.length CB);have vz:Hid _:=YZ.fr Ri hfs;have sC:Hid _:=((K3.out.trans aY).trans hfs).NF (cO:=.slice (some ⟨g7,0,none⟩) s.vars.length CB) (by rw[vw];rfl);clear aY Ri YZ yA vw Hg Y0 hP XL hfs hR HC K3 y33 f33
 go_wp2
 go_ret
 exact⟨p,_,rfl,sC.out,Hh.out,vz.out⟩
def ot (w0:World) (yb:Nat) (rv:Value) (raw:List Int) (f:Nat):Prop :=
 ∀ (t:Nat) (s:fC) (nv:Value) (w:World),t<5->s.left<f->s.vars.length+s.left<=100->s.at_+40*s.left+11<=100000->cd w0 w yb rv raw s nv ->
  Calls Tryz.prog 23 #[.pointer (some ⟨yb,0,none⟩),.int .i64 t] w λe w'=>∃ p bJ,e=.returned (.pointer (some ⟨p,0,none⟩))/\du w w' yb nv bJ/\cd w0 w' yb rv raw (aW raw f t s).2 bJ/\eD w' (aW raw f t s).1 p
theorem lR {w0 w:World} {yb:Nat} {rv:Value} {raw:List Int} {s:fC} {nv:Value} (h:cd w0 w yb rv raw s nv) (hl:s.left≠0):cd w0 (w.setCell ⟨yb,2,none⟩ (.int .i64 ((s.left:Int)-1))) yb rv raw { s with left:=s.left-1 } nv:=by
 refine⟨h.r,h.ob.set 2 _ ?_⟩;simp only[fq];rw[show (s.left:Int)-1=((s.left-1:Nat):Int) by omega];rfl
theorem Bm (w:World) (k:Kw) (n pa pb pd:Nat) {a b d:KE} (ha:eD w a pa) (hb:eD w b pb) (hd:eD w d pd) :
  Below w.heap.size w ((w.alloc (.cells #[.pointer (some ⟨pa,0,none⟩),.pointer (some ⟨pb,0,none⟩),.pointer (some ⟨pd,0,none⟩)] 23 (0,0))).alloc (.cells (pF k.bytes n (.slice (some ⟨w.heap.size,0,none⟩) 3 3)) 59 (0,0))) /\
  eD ((w.alloc (.cells #[.pointer (some ⟨pa,0,none⟩),.pointer (some ⟨pb,0,none⟩),.pointer (some ⟨pd,0,none⟩)] 23 (0,0))).alloc (.cells (pF k.bytes n (.slice (some ⟨w.heap.size,0,none⟩) 3 3)) 59 (0,0))) (.n3 k n a b d) (w.heap.size+1):=by
 have h1:=bg (Below.refl _ w) (.cells #[.pointer (some ⟨pa,0,none⟩),.pointer (some ⟨pb,0,none⟩),.pointer (some ⟨pd,0,none⟩)] 23 (0,0));have h2:=bg h1 (.cells (pF k.bytes n (.slice (some ⟨w.heap.size,0,none⟩) 3 3)) 59 (0,0));refine⟨h2,w.heap.size,pa,pb,pd,?_,?_,ha.below h2,hb.below h2,hd.below h2⟩
 ·have:=aj (w.alloc (.cells #[.pointer (some ⟨pa,0,none⟩),.pointer (some ⟨pb,0,none⟩),.pointer (some ⟨pd,0,none⟩)] 23 (0,0))) (.cells (pF k.bytes n (.slice (some ⟨w.heap.size,0,none⟩) 3 3)) 59 (0,0))
  simpa using this
 ·rw[Below.heap_alloc _ _ _ (by simp)];exact aj _ _
theorem NL {w0:World} {yb:Nat} {rv:Value} {raw:List Int} {f:Nat} (ih:ot w0 yb rv raw f) (t:Nat) (s:fC) (nv:Value) (w:World) (ht:t<5) (hf:s.left<f+1) (hv:s.vars.length+s.left<=100) (ha:s.at_+40*s.left+11<=100000) (h:cd w0 w yb rv raw s nv) (hl:s.left≠0) (hk:(aT raw 9 { s with left:=s.left-1 }).1=0) :
  Calls Tryz.prog 23 #[.pointer (some ⟨yb,0,none⟩),.int .i64 t] w λe w'=>∃ p bJ,e=.returned (.pointer (some ⟨p,0,none⟩))/\du w w' yb nv bJ/\cd w0 w' yb rv raw (aW raw (f+1) t s).2 bJ/\eD w' (aW raw (f+1) t s).1 p:=by
 have nV:=af h.ob.y
 have y2:w.cell? ⟨yb,2,none⟩=some (.int .i64 s.left):=by rw[aa h.ob.y];rfl
 have f2:w.frozen? ⟨yb,2,none⟩=false:=ag h.ob.y 2
 have AL:0<s.left:=by omega
 have iL:=dh 9 (by omega) (by omega) (lR h hl) (by simp only;omega);have hst:=bI raw 9 { s with left:=s.left-1 };have XM:=bZ raw 9 { s with left:=s.left-1 } (by omega);generalize hR:aW raw (f+1) t s=R;simp only[aW] at hR;rw[if_neg hl] at hR;generalize aT raw 9 { s with left:=s.left-1 }=x at *;obtain⟨x1,x2,x3,x4⟩:=hst;simp only at x1 x2 x3 x4
 have qk:((x.1:Int)==0)=true:=by rw[hk];rfl
 have yB:Hid _:=du.ym w yb nv 2 (.int .i64 ((s.left:Int)-1));have nf:Hid _:=iL;clear iL h
 go_enter Tryz.func23,Tryz.ntmps23
 go_wp2_with fail
 refine Calls.mono nf.out ?_;rintro _ w1 ⟨rfl,hf1,jD⟩;have eH:Hid _:=yB.out.trans hf1;have lz:Hid _:=jD;clear nf yB hf1 jD y2 f2;rw[if_pos hk] at hR;have hm:=bI raw 5 x.2;have Ar:=bZ raw 5 x.2 (by omega);have qP:=dh 5 (by omega) (by omega) lz.out (by omega);generalize aT raw 5 x.2=v at *;obtain⟨m1,m2,m3,m4⟩:=hm;have hao:=cD raw f v.1 v.2 Ar (by omega) (by rw[m2,x2];omega);have hia:=ih v.1 v.2 nv;generalize aW raw f v.1 v.2=a at *;obtain⟨a1,a2,a3,a4,a5,a6,a7,a8⟩:=hao;have hWv:=@wJ v.1;have Hj:=cD raw f t { a.2 with vars:=a.2.vars++[v.1] } ht (by simp only;omega) (by simp only[List.length_append,List.length_singleton,a2,m2,x2];omega)
 have hib:=λnv W hW=>JE (aW raw f) v.1 t a.2 nv W (λbJ W' h'=>ih t { a.2 with vars:=a.2.vars++[v.1] } bJ W' ht (by simp only;omega) (by simp only[List.length_append,List.length_singleton,a2,m2,x2];omega) (by simp only;omega) h') Hj.vars hW (by rw[a2,m2,x2];omega)
 have XL:=tV (v:=v.1) Hj;generalize fJ (aW raw f) v.1 t a.2=b at *;obtain⟨_,b2,_⟩:=XL;have Gt:Hid _:=qP
 have Bi:Hid (∀ W,cd w0 W yb rv raw v.2 nv->_):=λW hW=>hia W Ar (by omega) (by rw[m2,x2];omega) (by omega) hW
 have Bj:Hid _:=hib
 have hbl:b.2.vars.length<=100:=by rw[b2,a2,m2,x2];omega
 clear qP hia hib ih Hj
 go_wp2_with fail
 refine Calls.mono Gt.out ?_;rintro _ w2 ⟨rfl,hf2,hm2⟩;have cS:Hid _:=eH.out.trans hf2;have mK:Hid _:=hm2;clear hf2 hm2 lz eH Gt
 go_wp2_with fail
 refine Calls.mono (Bi.out w2 mK.out) ?_;rintro _ w3 ⟨p3,CC,rfl,hf3,Bh,qQ⟩;have ee:Hid _:=cS.out.trans hf3;have yt:Hid _:=Bh;have wh:Hid _:=qQ;clear hf3 Bh qQ mK cS
 go_wp2_with fail
 refine Calls.mono (Bj.out CC w3 yt.out) ?_;rintro _ w4 ⟨p4,iD,rfl,dE,tW,wK⟩;have Hk:Hid _:=eD.fr wh.out yt.out dE;have kA:Hid _:=ee.out.trans dE;have tE:Hid _:=tW;have Dx:Hid _:=wK;clear dE tW wK yt ee;obtain⟨na,nc,Hl,_,_⟩:=tE.out.ob.shape;rw[fQ] at Hl
 have y3:w4.cell? ⟨yb,3,none⟩=some (.slice na b.2.vars.length nc):=by rw[aa tE.out.ob.y,<- Hl];rfl
 have abk:=af tE.out.ob.y;have HR:Hid _:=hR;have h2:=nG w4 .aP b.2.vars.length p3 p4 Hk.out Dx.out;have H2:Hid _:=h2;clear hR h2 Hl b2 Bi Bj
 go_wp2
 go_ret
 rw[<- HR.out];exact⟨_,iD,rfl,kA.out.trans (du.below H2.out.1 _ _),tE.out.grow H2.out.1,H2.out.2⟩
theorem Rj {w0:World} {yb:Nat} {rv:Value} {raw:List Int} {f:Nat} (ih:ot w0 yb rv raw f) (t:Nat) (s:fC) (nv:Value) (w:World) (ht:t<5) (hf:s.left<f+1) (hv:s.vars.length+s.left<=100) (ha:s.at_+40*s.left+11<=100000) (h:cd w0 w yb rv raw s nv) (hl:s.left≠0) (hk:(aT raw 9 { s with left:=s.left-1 }).1=1) :
  Calls Tryz.prog 23 #[.pointer (some ⟨yb,0,none⟩),.int .i64 t] w λe w'=>∃ p bJ,e=.returned (.pointer (some ⟨p,0,none⟩))/\du w w' yb nv bJ/\cd w0 w' yb rv raw (aW raw (f+1) t s).2 bJ/\eD w' (aW raw (f+1) t s).1 p:=by
 have nV:=af h.ob.y
 have y2:w.cell? ⟨yb,2,none⟩=some (.int .i64 s.left):=by rw[aa h.ob.y];rfl
 have f2:w.frozen? ⟨yb,2,none⟩=false:=ag h.ob.y 2
 have AL:0<s.left:=by omega
 have iL:=dh 9 (by omega) (by omega) (lR h hl) (by simp only;omega);have hst:=bI raw 9 { s with left:=s.left-1 };have XM:=bZ raw 9 { s with left:=s.left-1 } (by omega);generalize hR:aW raw (f+1) t s=R;simp only[aW] at hR;rw[if_neg hl] at hR;generalize aT raw 9 { s with left:=s.left-1 }=x at *;obtain⟨x1,x2,x3,x4⟩:=hst;simp only at x1 x2 x3 x4
 skip
 have yB:Hid _:=du.ym w yb nv 2 (.int .i64 ((s.left:Int)-1));have nf:Hid _:=iL;clear iL h
 go_enter Tryz.func23,Tryz.ntmps23
 go_wp2_with fail
 refine Calls.mono nf.out ?_;rintro _ w1 ⟨rfl,hf1,jD⟩;have eH:Hid _:=yB.out.trans hf1;have lz:Hid _:=jD;clear nf yB hf1 jD y2 f2;rw[if_neg (by omega),if_pos hk] at hR;have hao:=cD raw f 0 x.2 (by omega) (by omega) (by rw[x2];omega)
 have hia:=λW hW=>ih 0 x.2 nv W (by omega) (by omega) (by rw[x2];omega) (by omega) hW
 generalize aW raw f 0 x.2=a at *;obtain⟨a1,a2,a3,a4,a5,a6,a7,a8⟩:=hao;have Hj:=cD raw f t a.2 ht (by omega) (by rw[a2,x2];omega);have JF:=@wJ 0;have hWt:=@wJ t
 have hib:=λnv W hW=>ih t a.2 nv W ht (by omega) (by rw[a2,x2];omega) (by omega) hW
 generalize aW raw f t a.2=b at *;obtain⟨b1,b2,b3,b4,b5,b6,b7,b8⟩:=Hj
 have hic:=λnv W hW=>ih t b.2 nv W ht (by omega) (by rw[b2,a2,x2];omega) (by omega) hW
 generalize aW raw f t b.2=d at *;have Bi:Hid _:=hia;have Bj:Hid _:=hib;have HIC:Hid _:=hic
 have qk:((x.1:Int)==0)=false:=by rw[beq_eq_false_iff_ne];omega
 have Y1:((x.1:Int)==1)=true:=by rw[hk];rfl
 clear hia hib hic ih
 go_wp2_with fail
 refine Calls.mono (Bi.out w1 lz.out) ?_;rintro _ w3 ⟨p3,CC,rfl,hf3,Bh,qQ⟩;have ee:Hid _:=eH.out.trans hf3;have yt:Hid _:=Bh;have wh:Hid _:=qQ;clear hf3 Bh qQ lz eH
 go_wp2_with fail
 refine Calls.mono (Bj.out CC w3 yt.out) ?_;rintro _ w4 ⟨p4,iD,rfl,dE,tW,wK⟩;have Hk:Hid _:=eD.fr wh.out yt.out dE;have kA:Hid _:=ee.out.trans dE;have tE:Hid _:=tW;have Dx:Hid _:=wK;clear dE tW wK yt ee
 go_wp2_with fail
 refine Calls.mono (HIC.out iD w4 tE.out) ?_;rintro _ w5 ⟨p5,Hm,rfl,eY,Ar,NG⟩;have abl:Hid _:=eD.fr Hk.out tE.out eY;have VK:Hid _:=eD.fr Dx.out tE.out eY;have gB:Hid _:=kA.out.trans eY;have Jw:Hid _:=Ar;have Jx:Hid _:=NG;clear eY Ar NG tE kA;have HR:Hid _:=hR;have h2:=Bm w5 .di 0 p3 p4 p5 abl.out VK.out Jx.out;have H2:Hid _:=h2;clear hR h2 Bi Bj HIC
 go_wp2
 go_ret
 rw[<- HR.out];exact⟨_,Hm,rfl,gB.out.trans (du.below H2.out.1 _ _),Jw.out.grow H2.out.1,H2.out.2⟩
theorem K4 {w0:World} {yb:Nat} {rv:Value} {raw:List Int} {f:Nat} (ih:ot w0 yb rv raw f) (t:Nat) (s:fC) (nv:Value) (w:World) (ht:t<5) (hf:s.left<f+1) (hv:s.vars.length+s.left<=100) (ha:s.at_+40*s.left+11<=100000) (h:cd w0 w yb rv raw s nv) (hl:s.left≠0) (hk:(aT raw 9 { s with left:=s.left-1 }).1=4) :
  Calls Tryz.prog 23 #[.pointer (some ⟨yb,0,none⟩),.int .i64 t] w λe w'=>∃ p bJ,e=.returned (.pointer (some ⟨p,0,none⟩))/\du w w' yb nv bJ/\cd w0 w' yb rv raw (aW raw (f+1) t s).2 bJ/\eD w' (aW raw (f+1) t s).1 p:=by
 have nV:=af h.ob.y
 have y2:w.cell? ⟨yb,2,none⟩=some (.int .i64 s.left):=by rw[aa h.ob.y];rfl
 have f2:w.frozen? ⟨yb,2,none⟩=false:=ag h.ob.y 2
 have AL:0<s.left:=by omega
 have iL:=dh 9 (by omega) (by omega) (lR h hl) (by simp only;omega);have hst:=bI raw 9 { s with left:=s.left-1 };have XM:=bZ raw 9 { s with left:=s.left-1 } (by omega);generalize hR:aW raw (f+1) t s=R;simp only[aW] at hR;rw[if_neg hl] at hR;generalize aT raw 9 { s with left:=s.left-1 }=x at *;obtain⟨x1,x2,x3,x4⟩:=hst;simp only at x1 x2 x3 x4
 skip
 have yB:Hid _:=du.ym w yb nv 2 (.int .i64 ((s.left:Int)-1));have nf:Hid _:=iL;clear iL h
 go_enter Tryz.func23,Tryz.ntmps23
 go_wp2_with fail
 refine Calls.mono nf.out ?_;rintro _ w1 ⟨rfl,hf1,jD⟩;have eH:Hid _:=yB.out.trans hf1;have lz:Hid _:=jD;clear nf yB hf1 jD y2 f2;rw[if_neg (by omega),if_neg (by omega),if_neg (by omega),if_pos hk] at hR;have hm:=bI raw 4 x.2;have tW:=bZ raw 4 x.2 (by omega);have qP:=dh 4 (by omega) (by omega) lz.out (by omega);generalize aT raw 4 x.2=n at *;obtain⟨m1,m2,m3,m4⟩:=hm;have hao:=cD raw f t n.2 ht (by omega) (by rw[m2,x2];omega)
 have hia:=λW hW=>ih t n.2 nv W ht (by omega) (by rw[m2,x2];omega) (by omega) hW
 generalize aW raw f t n.2=a at *;obtain⟨a1,a2,a3,a4,a5,a6,a7,a8⟩:=hao;have hWt:=@wJ t;have Hj:=cD raw f t { a.2 with vars:=a.2.vars++[t] } ht (by simp only;omega) (by simp only[List.length_append,List.length_singleton,a2,m2,x2];omega)
 have hib:=λnv W hW=>JE (aW raw f) t t a.2 nv W (λbJ W' h'=>ih t { a.2 with vars:=a.2.vars++[t] } bJ W' ht (by simp only;omega) (by simp only[List.length_append,List.length_singleton,a2,m2,x2];omega) (by simp only;omega) h') Hj.vars hW (by rw[a2,m2,x2];omega)
 have XL:=tV (v:=t) Hj;generalize fJ (aW raw f) t t a.2=b at *;obtain⟨_,b2,_⟩:=XL;have Gt:Hid _:=qP;have Bi:Hid _:=hia;have Bj:Hid _:=hib
 have hbl:b.2.vars.length<=100:=by rw[b2,a2,m2,x2];omega
 have qk:((x.1:Int)==0)=false:=by rw[beq_eq_false_iff_ne];omega
 have Y1:((x.1:Int)==1)=false:=by rw[beq_eq_false_iff_ne];omega
 have Y2:((x.1:Int)==2)=false:=by rw[beq_eq_false_iff_ne];omega
 have qk3:((x.1:Int)==3)=false:=by rw[beq_eq_false_iff_ne];omega
 have qk4:((x.1:Int)==4)=true:=by rw[hk];rfl
 clear qP hia hib ih Hj
 go_wp2_with fail
 refine Calls.mono Gt.out ?_;rintro _ w2 ⟨rfl,hf2,hm2⟩;have rX:=bg (Below.refl _ w2) (.cells (pF [] n.1 (.slice none 0 0)) 59 (0,0));have Y3:Hid (eD (w2.alloc (.cells (pF [] n.1 (.slice none 0 0)) 59 (0,0))) (.num n.1) w2.heap.size):=aj _ _;have cS:Hid _:=(eH.out.trans hf2).trans (du.below rX _ _);have mK:Hid _:=hm2.grow rX;clear hf2 hm2 rX lz eH Gt
 go_wp2_with fail
 refine Calls.mono (Bi.out _ mK.out) ?_;rintro _ w3 ⟨p3,CC,rfl,hf3,Bh,qQ⟩;have abm:Hid _:=eD.fr Y3.out mK.out hf3;have ee:Hid _:=cS.out.trans hf3;have yt:Hid _:=Bh;have wh:Hid _:=qQ;clear hf3 Bh qQ mK cS
 go_wp2_with fail
 refine Calls.mono (Bj.out CC w3 yt.out) ?_;rintro _ w4 ⟨p4,iD,rfl,dE,tW,wK⟩;have Hk:Hid _:=eD.fr wh.out yt.out dE;have abn:Hid _:=eD.fr abm.out yt.out dE;have kA:Hid _:=ee.out.trans dE;have tE:Hid _:=tW;have Dx:Hid _:=wK;clear dE tW wK yt ee;obtain⟨na,nc,Hl,_,_⟩:=tE.out.ob.shape;rw[fQ] at Hl
 have y3:w4.cell? ⟨yb,3,none⟩=some (.slice na b.2.vars.length nc):=by rw[aa tE.out.ob.y,<- Hl];rfl
 have abk:=af tE.out.ob.y;have HR:Hid _:=hR;have h2:=Bm w4 .loop b.2.vars.length w2.heap.size p3 p4 abn.out Hk.out Dx.out;have H2:Hid _:=h2;clear hR h2 Hl b2 Bi Bj Y3
 go_wp2
 go_ret
 rw[<- HR.out];exact⟨_,iD,rfl,kA.out.trans (du.below H2.out.1 _ _),tE.out.grow H2.out.1,H2.out.2⟩
theorem K5 {w0:World} {yb:Nat} {rv:Value} {raw:List Int} {f:Nat} (ih:ot w0 yb rv raw f) (t:Nat) (s:fC) (nv:Value) (w:World) (ht:t<5) (hf:s.left<f+1) (hv:s.vars.length+s.left<=100) (ha:s.at_+40*s.left+11<=100000) (h:cd w0 w yb rv raw s nv) (hl:s.left≠0) (hk:4<(aT raw 9 { s with left:=s.left-1 }).1/\(aT raw 9 { s with left:=s.left-1 }).1<8) (h0:t≠0) :
  Calls Tryz.prog 23 #[.pointer (some ⟨yb,0,none⟩),.int .i64 t] w λe w'=>∃ p bJ,e=.returned (.pointer (some ⟨p,0,none⟩))/\du w w' yb nv bJ/\cd w0 w' yb rv raw (aW raw (f+1) t s).2 bJ/\eD w' (aW raw (f+1) t s).1 p:=by
 have nV:=af h.ob.y
 have y2:w.cell? ⟨yb,2,none⟩=some (.int .i64 s.left):=by rw[aa h.ob.y];rfl
 have f2:w.frozen? ⟨yb,2,none⟩=false:=ag h.ob.y 2
 have AL:0<s.left:=by omega
 have iL:=dh 9 (by omega) (by omega) (lR h hl) (by simp only;omega);have hst:=bI raw 9 { s with left:=s.left-1 };have XM:=bZ raw 9 { s with left:=s.left-1 } (by omega);generalize hR:aW raw (f+1) t s=R;simp only[aW] at hR;rw[if_neg hl] at hR;generalize aT raw 9 { s with left:=s.left-1 }=x at *;obtain⟨x1,x2,x3,x4⟩:=hst;simp only at x1 x2 x3 x4
 skip
 have yB:Hid _:=du.ym w yb nv 2 (.int .i64 ((s.left:Int)-1));have nf:Hid _:=iL;clear iL h
 go_enter Tryz.func23,Tryz.ntmps23
 go_wp2_with fail
 refine Calls.mono nf.out ?_;rintro _ w1 ⟨rfl,hf1,jD⟩;have eH:Hid _:=yB.out.trans hf1;have lz:Hid _:=jD;clear nf yB hf1 jD y2 f2;rw[if_neg (by omega),if_neg (by omega),if_neg (by omega),if_neg (by omega),if_pos hk.2,if_neg h0] at hR;have hp:=yj ht h0
 have hfi:fI t=((fT t:Nat):Int):=by unfold fI;rw[if_neg h0]
 have hsi:sI t=((sT t:Nat):Int):=by unfold sI;rw[if_neg h0]
 have hfs:=oo t ht;have AK:=mJ t ht;rw[hfi] at hfs;rw[hsi] at AK;have ME:Hid _:=hfs;have Qz:Hid _:=AK;have hao:=cD raw f (fT t) x.2 hp.2.2.2.2.1 (by omega) (by rw[x2];omega)
 have hia:=λW hW=>ih (fT t) x.2 nv W hp.2.2.2.2.1 (by omega) (by rw[x2];omega) (by omega) hW
 have hWf:=@wJ (fT t);generalize aW raw f (fT t) x.2=a at *;obtain⟨a1,a2,a3,a4,a5,a6,a7,a8⟩:=hao
 have hib:=λnv W hW=>ih (sT t) a.2 nv W hp.2.2.2.2.2 (by omega) (by rw[a2,x2];omega) (by omega) hW
 generalize aW raw f (sT t) a.2=b at *;have Bi:Hid _:=hia;have Bj:Hid _:=hib
 have q0:((t:Int)==0)=false:=by rw[beq_eq_false_iff_ne];omega
 have qk0:((x.1:Int)==0)=false:=by rw[beq_eq_false_iff_ne];omega
 have Y1:((x.1:Int)==1)=false:=by rw[beq_eq_false_iff_ne];omega
 have Y2:((x.1:Int)==2)=false:=by rw[beq_eq_false_iff_ne];omega
 have qk3:((x.1:Int)==3)=false:=by rw[beq_eq_false_iff_ne];omega
 have qk4:((x.1:Int)==4)=false:=by rw[beq_eq_false_iff_ne];omega
 clear hia hib ih hfi hsi hfs AK hp
 go_wp2_with fail
 refine Calls.mono (ME.out _) ?_;rintro _ w2 ⟨rfl,hb2⟩;have cS:Hid _:=eH.out.trans (du.below hb2 _ _);have mK:Hid _:=lz.out.grow hb2;clear hb2 eH lz
 go_wp2_with fail
 refine Calls.mono (Bi.out w2 mK.out) ?_;rintro _ w3 ⟨p3,CC,rfl,hf3,Bh,qQ⟩;have ee:Hid _:=cS.out.trans hf3;have yt:Hid _:=Bh;have wh:Hid _:=qQ;clear hf3 Bh qQ mK cS
 go_wp2_with fail
 refine Calls.mono (Qz.out _) ?_;rintro _ w4 ⟨rfl,hb4⟩;have kA:Hid _:=ee.out.trans (du.below hb4 _ _);have tE:Hid _:=yt.out.grow hb4;have Dx:Hid _:=wh.out.below hb4;clear hb4 ee yt wh
 go_wp2_with fail
 refine Calls.mono (Bj.out CC w4 tE.out) ?_;rintro _ w5 ⟨p5,Hm,rfl,eY,Ar,NG⟩;have VK:Hid _:=eD.fr Dx.out tE.out eY;have gB:Hid _:=kA.out.trans eY;have Jw:Hid _:=Ar;have Jx:Hid _:=NG;clear eY Ar NG tE kA;have HR:Hid _:=hR;have h2:=nG w5 .pair 0 p3 p5 VK.out Jx.out;have H2:Hid _:=h2;clear hR h2 Bi Bj ME Qz
 go_wp2
 go_ret
 rw[<- HR.out];exact⟨_,Hm,rfl,gB.out.trans (du.below H2.out.1 _ _),Jw.out.grow H2.out.1,H2.out.2⟩
theorem K6 {w0:World} {yb:Nat} {rv:Value} {raw:List Int} {f:Nat} (ih:ot w0 yb rv raw f) (t:Nat) (s:fC) (nv:Value) (w:World) (ht:t<5) (hf:s.left<f+1) (hv:s.vars.length+s.left<=100) (ha:s.at_+40*s.left+11<=100000) (h:cd w0 w yb rv raw s nv) (hl:s.left≠0) (hk:8<=(aT raw 9 { s with left:=s.left-1 }).1) :
  Calls Tryz.prog 23 #[.pointer (some ⟨yb,0,none⟩),.int .i64 t] w λe w'=>∃ p bJ,e=.returned (.pointer (some ⟨p,0,none⟩))/\du w w' yb nv bJ/\cd w0 w' yb rv raw (aW raw (f+1) t s).2 bJ/\eD w' (aW raw (f+1) t s).1 p:=by
 have nV:=af h.ob.y
 have y2:w.cell? ⟨yb,2,none⟩=some (.int .i64 s.left):=by rw[aa h.ob.y];rfl
 have f2:w.frozen? ⟨yb,2,none⟩=false:=ag h.ob.y 2
 have AL:0<s.left:=by omega
 have iL:=dh 9 (by omega) (by omega) (lR h hl) (by simp only;omega);have hst:=bI raw 9 { s with left:=s.left-1 };have XM:=bZ raw 9 { s with left:=s.left-1 } (by omega);generalize hR:aW raw (f+1) t s=R;simp only[aW] at hR;rw[if_neg hl] at hR;generalize aT raw 9 { s with left:=s.left-1 }=x at *;obtain⟨x1,x2,x3,x4⟩:=hst;simp only at x1 x2 x3 x4
 skip
 have yB:Hid _:=du.ym w yb nv 2 (.int .i64 ((s.left:Int)-1));have nf:Hid _:=iL;clear iL h
 go_enter Tryz.func23,Tryz.ntmps23
 go_wp2_with fail
 refine Calls.mono nf.out ?_;rintro _ w1 ⟨rfl,hf1,jD⟩;have eH:Hid _:=yB.out.trans hf1;have lz:Hid _:=jD;clear nf yB hf1 jD y2 f2;rw[if_neg (by omega),if_neg (by omega),if_neg (by omega),if_neg (by omega),if_neg (by omega)] at hR;have hlf:=yq 3 t x.2 nv w1 ht (by unfold dep;split <;> (try split) <;> omega) lz.out (by rw[x2];omega) (by have:=@wJ t;omega);rw[hR] at hlf;have VL:Hid _:=hlf
 have qk0:((x.1:Int)==0)=false:=by rw[beq_eq_false_iff_ne];omega
 have Y1:((x.1:Int)==1)=false:=by rw[beq_eq_false_iff_ne];omega
 have Y2:((x.1:Int)==2)=false:=by rw[beq_eq_false_iff_ne];omega
 have qk3:((x.1:Int)==3)=false:=by rw[beq_eq_false_iff_ne];omega
 have qk4:((x.1:Int)==4)=false:=by rw[beq_eq_false_iff_ne];omega
 have hff:=hf;have hii:=ih;clear hlf lz ih hii hff
 go_wp2_with fail
 refine Calls.mono VL.out ?_;rintro _ w2 ⟨p,rfl,hf2,hm2,hk2⟩;have cS:Hid _:=eH.out.trans hf2;have mK:Hid _:=hm2;have pj:Hid _:=hk2;clear hf2 hm2 hk2 eH VL
 go_wp2
 go_ret
 exact⟨p,nv,rfl,cS.out,mK.out,pj.out⟩
def p8 (raw:List Int) (f t:Nat) (s:fC):KE × fC :=
 match jo t (aT raw 4 s).1 0 10 with
 | some q=>(.n1 q.1 (aW raw f q.2 (aT raw 4 s).2).1,(aW raw f q.2 (aT raw 4 s).2).2)
 | none=>ed raw 3 t (aT raw 4 s).2
theorem Hn (t k i n:Nat):jo t k i (n+1)=if (i+k) / 5 % 2=1 then (if sI ((i+k) % 5)=t then some (.snd,(i+k) % 5) else jo t k (i+1) n) else (if fI ((i+k) % 5)=t then some (.fst,(i+k) % 5) else jo t k (i+1) n):=rfl
theorem Ej (w:World) (k:Kw) (pa:Nat) {a:KE} (ha:eD w a pa) :
  Below w.heap.size w ((w.alloc (.cells #[.pointer (some ⟨pa,0,none⟩)] 23 (0,0))).alloc (.cells (pF k.bytes 0 (.slice (some ⟨w.heap.size,0,none⟩) 1 1)) 59 (0,0))) /\
  eD ((w.alloc (.cells #[.pointer (some ⟨pa,0,none⟩)] 23 (0,0))).alloc (.cells (pF k.bytes 0 (.slice (some ⟨w.heap.size,0,none⟩) 1 1)) 59 (0,0))) (.n1 k a) (w.heap.size+1):=by
 have h1:=bg (Below.refl _ w) (.cells #[.pointer (some ⟨pa,0,none⟩)] 23 (0,0));have h2:=bg h1 (.cells (pF k.bytes 0 (.slice (some ⟨w.heap.size,0,none⟩) 1 1)) 59 (0,0));refine⟨h2,w.heap.size,pa,?_,?_,ha.below h2⟩
 ·have:=aj (w.alloc (.cells #[.pointer (some ⟨pa,0,none⟩)] 23 (0,0))) (.cells (pF k.bytes 0 (.slice (some ⟨w.heap.size,0,none⟩) 1 1)) 59 (0,0))
  simpa using this
 ·rw[Below.heap_alloc _ _ _ (by simp)];exact aj _ _
theorem NM {w0:World} {yb:Nat} {rv:Value} {raw:List Int} {f:Nat} (ih:ot w0 yb rv raw f) (t:Nat) (s:fC) (nv:Value) (w:World) (ht:t<5) (hf:s.left<f) (hv:s.vars.length+s.left<=100) (ha:s.at_+40*s.left+12<=100000) (h:cd w0 w yb rv raw s nv) :
  Calls Tryz.prog 40 #[.pointer (some ⟨yb,0,none⟩),.int .i64 t] w λe w'=>∃ p bJ,e=.returned (.pointer (some ⟨p,0,none⟩))/\du w w' yb nv bJ/\cd w0 w' yb rv raw (p8 raw f t s).2 bJ/\eD w' (p8 raw f t s).1 p:=by
 have iL:=dh 4 (by omega) (by omega) h (by omega);have hst:=bI raw 4 s;have wK:=bZ raw 4 s (by omega)
 have hS:∀ q,jo t (aT raw 4 s).1 0 10=some q->p8 raw f t s=(.n1 q.1 (aW raw f q.2 (aT raw 4 s).2).1,(aW raw f q.2 (aT raw 4 s).2).2):=λq hq=>by unfold p8;rw[hq]
 have hN:jo t (aT raw 4 s).1 0 10=none->p8 raw f t s=ed raw 3 t (aT raw 4 s).2:=λhq=>by unfold p8;rw[hq]
 have htg:=λq=>Ea t ht (aT raw 4 s).1 wK q
 generalize p8 raw f t s=R at *;generalize aT raw 4 s=x at *;obtain⟨x1,x2,x3,x4⟩:=hst;have HS:Hid _:=hS;have HN:Hid _:=hN;have HTG:Hid _:=htg;have nf:Hid _:=iL
 have VL:Hid _:=λW (hW:cd w0 W yb rv raw x.2 nv)=>yq 3 t x.2 nv W ht (by unfold dep;split <;> (try split) <;> omega) hW (by rw[x2];omega) (by have:=@wJ t;omega)
 have HIH:Hid _:=λ(p:Nat) (hp:p<5) W hW=>ih p x.2 nv W hp (by omega) (by rw[x2];omega) (by omega) hW
 clear hS hN htg iL h ih;obtain⟨k,s1⟩:=x;simp only at *
 go_enter Tryz.func40,Tryz.ntmps40
 go_wp2_with fail
 refine Calls.mono nf.out ?_;rintro _ w1 ⟨rfl,hf1,jD⟩;have eH:Hid _:=hf1;have lz:Hid _:=jD;clear hf1 jD nf
 go_wp2_with fail
 go_loopw [6] (λi wr=>∃ j:Nat,j<=10/\i=.int .i64 j/\jo t k 0 10=jo t k j (10-j)/\Below w1.heap.size w1 wr) (λi _=>10-(intOf i).toNat)
 case atStart=>exact⟨0,by omega,rfl,rfl,Below.refl _ _⟩
 case round =>
  obtain⟨j,hj,rfl,htk,hbel⟩:=hrel;have hsz:=hbel.size;have HB:Hid _:=hbel
  by_cases hlt:j<10
  ·obtain⟨n,hn⟩:∃ n,10-j=n+1:=⟨9-j,by omega⟩
   have hn9:n=10-(j+1):=by omega
   rw[hn] at htk
   replace htk:=htk.trans (Hn t k j n)
   rw[hn9] at htk;have XN:(j+k) % 5<5:=Nat.mod_lt _ (by omega);have ME:Hid _:=oo ((j+k) % 5) XN;have Qz:Hid _:=mJ ((j+k) % 5) XN
   have e1:((j:Int)+(k:Int)) % 5=(((j+k) % 5:Nat):Int):=by omega
   have jG:Hid _:=htk;clear htk hbel hn hn9;obtain⟨p,hp⟩:∃ p,p=(j+k) % 5:=⟨_,rfl⟩;rw[<- hp] at e1 jG ME Qz XN
   by_cases hod:(j+k) / 5 % 2=1
   ·have e2:((j:Int)+(k:Int)) / 5 % 2=1:=by omega
    have ub:Hid (jo t k 0 10=if sI p=t then some (.snd,p) else jo t k (j+1) (10-(j+1))):=by have:=jG.out;rw[if_pos hod] at this;exact this
    clear jG hp hod
    go_wp2_with fail
    refine Calls.mono (ME.out _) ?_;rintro _ w2 ⟨rfl,hb2⟩;have eC:Hid _:=HB.out.trans (hb2.mono hsz);have Ho:=eC.out.size;clear hb2 ME
    go_wp2_with fail
    refine Calls.mono (Qz.out _) ?_;rintro _ w3 ⟨rfl,hb3⟩;have jb:Hid _:=eC.out.trans (hb3.mono Ho);clear hb3 Qz
    by_cases hh:sI p=t
    ·have qh:(sI p==(t:Int))=true:=by rw[hh];simp
     have hq:jo t k 0 10=some (.snd,p):=by rw[ub.out,if_pos hh]
     have HR:Hid _:=HS.out _ hq;have TJ:Hid _:=lz.out.grow jb.out;clear hh hq ub
     go_wp2_with fail
     refine Calls.mono (HIH.out p XN w3 TJ.out) ?_;rintro _ w4 ⟨pa,iD,rfl,dE,tW,wK⟩;have kA:Hid _:=(eH.out.trans (du.below jb.out _ _)).trans dE;have tE:Hid _:=tW;have H2:Hid _:=Ej w4 .snd pa wK;clear dE tW wK
     go_wp2
     go_ret
     rw[HR.out];exact⟨_,iD,rfl,kA.out.trans (du.below H2.out.1 _ _),tE.out.grow H2.out.1,H2.out.2⟩
    ·have qh:(sI p==(t:Int))=false:=by rw[beq_eq_false_iff_ne];exact hh
     have HQ:Hid _:=ub.out.trans (if_neg hh);clear hh ub
     go_wp2
     go_roundw
     case rel=>exact⟨j+1,by omega,by go_num,HQ.out,jb.out⟩
     case measure=>simp[intOf];omega
   ·have e2:((j:Int)+(k:Int)) / 5 % 2=0:=by omega
    have ub:Hid (jo t k 0 10=if fI p=t then some (.fst,p) else jo t k (j+1) (10-(j+1))):=by have:=jG.out;rw[if_neg hod] at this;exact this
    clear jG hp hod
    go_wp2_with fail
    refine Calls.mono (ME.out _) ?_;rintro _ w2 ⟨rfl,hb2⟩;have jb:Hid _:=HB.out.trans (hb2.mono hsz);clear hb2 ME
    by_cases hh:fI p=t
    ·have qh:(fI p==(t:Int))=true:=by rw[hh];simp
     have hq:jo t k 0 10=some (.fst,p):=by rw[ub.out,if_pos hh]
     have HR:Hid _:=HS.out _ hq;have TJ:Hid _:=lz.out.grow jb.out;clear hh hq ub
     go_wp2_with fail
     refine Calls.mono (HIH.out p XN w2 TJ.out) ?_;rintro _ w4 ⟨pa,iD,rfl,dE,tW,wK⟩;have kA:Hid _:=(eH.out.trans (du.below jb.out _ _)).trans dE;have tE:Hid _:=tW;have H2:Hid _:=Ej w4 .fst pa wK;clear dE tW wK
     go_wp2
     go_ret
     rw[HR.out];exact⟨_,iD,rfl,kA.out.trans (du.below H2.out.1 _ _),tE.out.grow H2.out.1,H2.out.2⟩
    ·have qh:(fI p==(t:Int))=false:=by rw[beq_eq_false_iff_ne];exact hh
     have HQ:Hid _:=ub.out.trans (if_neg hh);clear hh ub
     go_wp2
     go_roundw
     case rel=>exact⟨j+1,by omega,by go_num,HQ.out,jb.out⟩
     case measure=>simp[intOf];omega
  ·have Gf:j=10:=by omega
   subst Gf;have HR:Hid _:=HN.out htk;have TJ:Hid _:=lz.out.grow HB.out;clear htk hbel
   go_wp2_with fail
   refine Calls.mono (VL.out _ TJ.out) ?_;rintro _ w2 ⟨p,rfl,hf2,hm2,hk2⟩;have cS:Hid _:=(eH.out.trans (du.below HB.out _ _)).trans hf2;have mK:Hid _:=hm2;have pj:Hid _:=hk2;clear hf2 hm2 hk2
   go_wp2
   go_ret
   rw[HR.out];exact⟨p,nv,rfl,cS.out,mK.out,pj.out⟩
theorem Tryz.K7:(Tryz.prog.info? 81).map (·.size)=some 3:=by kernel_rfl
theorem Rk {w0:World} {yb:Nat} {rv:Value} {raw:List Int} {f:Nat} (ih:ot w0 yb rv raw f) (t:Nat) (s:fC) (nv:Value) (w:World) (ht:t<5) (hf:s.left<f+1) (hv:s.vars.length+s.left<=100) (ha:s.at_+40*s.left+11<=100000) (h:cd w0 w yb rv raw s nv) (hl:s.left≠0) (hk:4<(aT raw 9 { s with left:=s.left-1 }).1/\(aT raw 9 { s with left:=s.left-1 }).1<8) (h0:t=0) :
  Calls Tryz.prog 23 #[.pointer (some ⟨yb,0,none⟩),.int .i64 t] w λe w'=>∃ p bJ,e=.returned (.pointer (some ⟨p,0,none⟩))/\du w w' yb nv bJ/\cd w0 w' yb rv raw (aW raw (f+1) t s).2 bJ/\eD w' (aW raw (f+1) t s).1 p:=by
 have nV:=af h.ob.y
 have y2:w.cell? ⟨yb,2,none⟩=some (.int .i64 s.left):=by rw[aa h.ob.y];rfl
 have f2:w.frozen? ⟨yb,2,none⟩=false:=ag h.ob.y 2
 have AL:0<s.left:=by omega
 have iL:=dh 9 (by omega) (by omega) (lR h hl) (by simp only;omega);have hst:=bI raw 9 { s with left:=s.left-1 };have XM:=bZ raw 9 { s with left:=s.left-1 } (by omega);generalize hR:aW raw (f+1) t s=R;simp only[aW] at hR;rw[if_neg hl] at hR;generalize aT raw 9 { s with left:=s.left-1 }=x at *;obtain⟨x1,x2,x3,x4⟩:=hst;simp only at x1 x2 x3 x4
 skip
 have yB:Hid _:=du.ym w yb nv 2 (.int .i64 ((s.left:Int)-1));have nf:Hid _:=iL;clear iL h
 go_enter Tryz.func23,Tryz.ntmps23
 go_wp2_with fail
 refine Calls.mono nf.out ?_;rintro _ w1 ⟨rfl,hf1,jD⟩;have eH:Hid _:=yB.out.trans hf1;have lz:Hid _:=jD;clear nf yB hf1 jD y2 f2;rw[if_neg (by omega),if_neg (by omega),if_neg (by omega),if_neg (by omega),if_pos hk.2,if_pos h0] at hR;subst h0;have hm:=bI raw 3 x.2;have Q2:=bZ raw 3 x.2 (by omega)
 have qP:=λW hW=>dh (w:=W) 3 (by omega) (by omega) (lz.out.grow hW) (by omega)
 generalize aT raw 3 x.2=o at *;obtain⟨m1,m2,m3,m4⟩:=hm;have hao:=cD raw f 0 o.2 (by omega) (by omega) (by rw[m2,x2];omega)
 have hia:=λW hW=>ih 0 o.2 nv W (by omega) (by omega) (by rw[m2,x2];omega) (by omega) hW
 have JF:=@wJ 0;generalize aW raw f 0 o.2=a at *;obtain⟨a1,a2,a3,a4,a5,a6,a7,a8⟩:=hao
 have hib:=λnv W hW=>ih 0 a.2 nv W (by omega) (by omega) (by rw[a2,m2,x2];omega) (by omega) hW
 generalize aW raw f 0 a.2=b at *;have Gt:Hid _:=qP;have Bi:Hid _:=hia;have Bj:Hid _:=hib;have HR:Hid _:=hR
 have qk0:((x.1:Int)==0)=false:=by rw[beq_eq_false_iff_ne];omega
 have Y1:((x.1:Int)==1)=false:=by rw[beq_eq_false_iff_ne];omega
 have Y2:((x.1:Int)==2)=false:=by rw[beq_eq_false_iff_ne];omega
 have qk3:((x.1:Int)==3)=false:=by rw[beq_eq_false_iff_ne];omega
 have qk4:((x.1:Int)==4)=false:=by rw[beq_eq_false_iff_ne];omega
 clear qP hia hib ih hR
 go_wp2_with (refine jY rfl 81 (.tmp 15) (.tmp 119) rfl w1.heap.size #[.string ⟨#[97,100,100]⟩,.string ⟨#[115,117,98]⟩,.string ⟨#[108,101,115,115]⟩] rfl rfl 81 _ (aj _ _) Tryz.K7 rfl (by simp[Value.oneCell']) ?_;intro W hW mr nU hW1 hW2 hW3)
 have hbW:Below w1.heap.size w1 W:=fP (Below.alloc (Below.refl _ w1) (Nat.le_refl _) _) (Nat.le_refl _) mr nU hW1 hW2 hW3;have TJ:Hid _:=lz.out.grow hbW;have HFW:Hid _:=eH.out.trans (du.below hbW _ _);have Am:Hid _:=hbW;have HQ:Hid _:=hW;clear mr nU hW1 hW2 hW3 hbW hW lz eH;refine Calls.mono (Gt.out W Am.out) ?_;rintro _ w2 ⟨rfl,hf2,hm2⟩;have QA:=TJ.out.ob.other hf2 (by decide) (by decide) HQ.out
 have hqc:w2.cell? ⟨w1.heap.size,o.1,none⟩=some (.string (bs (Q8 o.1).bytes)):=by
  rw[aa QA]
  have h3:o.1=0\/o.1=1\/o.1=2:=by omega
  rcases h3 with h | h | h <;> rw[h] <;> rfl
 have TK:w1.heap.size<w2.heap.size:=af QA;have cS:Hid _:=HFW.out.trans hf2;have mK:Hid _:=hm2;clear hf2 hm2 TJ HFW Am HQ Gt QA;generalize w1.heap.size=q at *
 go_wp2_with fail
 refine Calls.mono (Bi.out w2 mK.out) ?_;rintro _ w3 ⟨p3,CC,rfl,hf3,Bh,qQ⟩;have ee:Hid _:=cS.out.trans hf3;have yt:Hid _:=Bh;have wh:Hid _:=qQ;clear hf3 Bh qQ mK cS
 go_wp2_with fail
 refine Calls.mono (Bj.out CC w3 yt.out) ?_;rintro _ w4 ⟨p4,iD,rfl,dE,tW,wK⟩;have Hk:Hid _:=eD.fr wh.out yt.out dE;have kA:Hid _:=ee.out.trans dE;have tE:Hid _:=tW;have Dx:Hid _:=wK;clear dE tW wK yt ee;have h2:=nG w4 (Q8 o.1) 0 p3 p4 Hk.out Dx.out;have H2:Hid _:=h2;clear h2 Bi Bj
 go_wp2
 go_ret
 rw[<- HR.out];exact⟨_,iD,rfl,kA.out.trans (du.below H2.out.1 _ _),tE.out.grow H2.out.1,H2.out.2⟩
theorem Hp {w0:World} {yb:Nat} {rv:Value} {raw:List Int} {f:Nat} (ih:ot w0 yb rv raw f) (t:Nat) (s:fC) (nv:Value) (w:World) (ht:t<5) (hf:s.left<f+1) (hv:s.vars.length+s.left<=100) (ha:s.at_+40*s.left+11<=100000) (h:cd w0 w yb rv raw s nv) (hl:s.left≠0) (hk:(aT raw 9 { s with left:=s.left-1 }).1=2\/(aT raw 9 { s with left:=s.left-1 }).1=3) :
  Calls Tryz.prog 23 #[.pointer (some ⟨yb,0,none⟩),.int .i64 t] w λe w'=>∃ p bJ,e=.returned (.pointer (some ⟨p,0,none⟩))/\du w w' yb nv bJ/\cd w0 w' yb rv raw (aW raw (f+1) t s).2 bJ/\eD w' (aW raw (f+1) t s).1 p:=by
 have nV:=af h.ob.y
 have y2:w.cell? ⟨yb,2,none⟩=some (.int .i64 s.left):=by rw[aa h.ob.y];rfl
 have f2:w.frozen? ⟨yb,2,none⟩=false:=ag h.ob.y 2
 have AL:0<s.left:=by omega
 have iL:=dh 9 (by omega) (by omega) (lR h hl) (by simp only;omega);have hst:=bI raw 9 { s with left:=s.left-1 };have XM:=bZ raw 9 { s with left:=s.left-1 } (by omega);generalize hR:aW raw (f+1) t s=R;simp only[aW] at hR;rw[if_neg hl] at hR;generalize aT raw 9 { s with left:=s.left-1 }=x at *;obtain⟨x1,x2,x3,x4⟩:=hst;simp only at x1 x2 x3 x4
 skip
 have yB:Hid _:=du.ym w yb nv 2 (.int .i64 ((s.left:Int)-1));have nf:Hid _:=iL;clear iL h
 go_enter Tryz.func23,Tryz.ntmps23
 go_wp2_with fail
 refine Calls.mono nf.out ?_;rintro _ w1 ⟨rfl,hf1,jD⟩;have eH:Hid _:=yB.out.trans hf1;have lz:Hid _:=jD;clear nf yB hf1 jD y2 f2;rw[if_neg (by omega),if_neg (by omega),if_pos hk] at hR;have htk:=NM ih t x.2 nv w1 ht (by omega) (by rw[x2];omega) (by omega) lz.out;have jG:Hid _:=htk
 have HR:Hid (p8 raw f t x.2=R):=by rw[<- hR];rfl
 have qk0:((x.1:Int)==0)=false:=by rw[beq_eq_false_iff_ne];omega
 have Y1:((x.1:Int)==1)=false:=by rw[beq_eq_false_iff_ne];omega
 clear htk hR ih lz;have Y4:x.1=2\/x.1=3:=hk
 rcases Y4 with h2 | h3
 ·have Y2:((x.1:Int)==2)=true:=by rw[h2];rfl
  clear hk h2
  go_wp2_with fail
  refine Calls.mono jG.out ?_;rintro _ w2 ⟨p,cO,rfl,hf2,hm2,hk2⟩;have cS:Hid _:=eH.out.trans hf2;have mK:Hid _:=hm2;have pj:Hid _:=hk2;clear hf2 hm2 hk2 jG
  go_wp2
  go_ret
  rw[<- HR.out];exact⟨p,cO,rfl,cS.out,mK.out,pj.out⟩
 ·have Y2:((x.1:Int)==2)=false:=by rw[h3];rfl
  have qk3:((x.1:Int)==3)=true:=by rw[h3];rfl
  clear hk h3
  go_wp2_with fail
  refine Calls.mono jG.out ?_;rintro _ w2 ⟨p,cO,rfl,hf2,hm2,hk2⟩;have cS:Hid _:=eH.out.trans hf2;have mK:Hid _:=hm2;have pj:Hid _:=hk2;clear hf2 hm2 hk2 jG
  go_wp2
  go_ret
  rw[<- HR.out];exact⟨p,cO,rfl,cS.out,mK.out,pj.out⟩
theorem K8 {w0:World} {yb:Nat} {rv:Value} {raw:List Int} {f:Nat} (t:Nat) (s:fC) (nv:Value) (w:World) (ht:t<5) (hv:s.vars.length+s.left<=100) (ha:s.at_+40*s.left+11<=100000) (h:cd w0 w yb rv raw s nv) (hl:s.left=0) :
  Calls Tryz.prog 23 #[.pointer (some ⟨yb,0,none⟩),.int .i64 t] w λe w'=>∃ p bJ,e=.returned (.pointer (some ⟨p,0,none⟩))/\du w w' yb nv bJ/\cd w0 w' yb rv raw (aW raw (f+1) t s).2 bJ/\eD w' (aW raw (f+1) t s).1 p:=by
 have nV:=af h.ob.y
 have y2:w.cell? ⟨yb,2,none⟩=some (.int .i64 0):=by rw[aa h.ob.y,<- Int.natCast_zero,<- hl];rfl
 have hR:aW raw (f+1) t s=ed raw 3 t s:=by simp only[aW];rw[if_pos hl]
 rw[hR];have VL:Hid _:=yq 3 t s nv w ht (by unfold dep;split <;> (try split) <;> omega) h (by omega) (by have:=@wJ t;omega);clear h hR
 go_enter Tryz.func23,Tryz.ntmps23
 go_wp2_with fail
 refine Calls.mono VL.out ?_;rintro _ w2 ⟨p,rfl,hf2,hm2,hk2⟩;have cS:Hid _:=hf2;have mK:Hid _:=hm2;have pj:Hid _:=hk2;clear hf2 hm2 hk2 VL
 go_wp2
 go_ret
 exact⟨p,nv,rfl,cS.out,mK.out,pj.out⟩
theorem Ek {w0:World} {yb:Nat} {rv:Value} {raw:List Int}:∀ f,ot w0 yb rv raw f
 | 0=>λ_ _ _ _ _ h=>absurd h (by omega)
 | f+1=>λt s nv w ht hf hv ha h=>by
  by_cases hl:s.left=0
  ·exact K8 t s nv w ht hv ha h hl
  ·have ih:=Ek (w0:=w0) (yb:=yb) (rv:=rv) (raw:=raw) f
   have h9:=bZ raw 9 { s with left:=s.left-1 } (by omega)
   by_cases h0:(aT raw 9 { s with left:=s.left-1 }).1=0
   ·exact NL ih t s nv w ht hf hv ha h hl h0
   by_cases h1:(aT raw 9 { s with left:=s.left-1 }).1=1
   ·exact Rj ih t s nv w ht hf hv ha h hl h1
   by_cases h2:(aT raw 9 { s with left:=s.left-1 }).1=2\/(aT raw 9 { s with left:=s.left-1 }).1=3
   ·exact Hp ih t s nv w ht hf hv ha h hl h2
   by_cases h4:(aT raw 9 { s with left:=s.left-1 }).1=4
   ·exact K4 ih t s nv w ht hf hv ha h hl h4
   by_cases h8:(aT raw 9 { s with left:=s.left-1 }).1<8
   ·by_cases ht0:t=0
    ·exact Rk ih t s nv w ht hf hv ha h hl ⟨by omega,h8⟩ ht0
    ·exact K5 ih t s nv w ht hf hv ha h hl ⟨by omega,h8⟩ ht0
   ·exact K6 ih t s nv w ht hf hv ha h hl (by omega)
theorem K9 (w:World) (t:Int) (rv:Value) (raw:List Int) (ht:VA t) (h:tX w rv raw) :
  Calls Tryz.prog 8 #[.int .i64 t,rv] w λe w'=>∃ p,e=.returned (.pointer (some ⟨p,0,none⟩))/\Below w.heap.size w w'/\eD w' (sR t raw) p:=by
 obtain⟨ra,rn,rc,rfl⟩:∃ ra rn rc,rv=.slice ra rn rc:=by
  rcases h.2 with ⟨h1,_⟩ | ⟨a,cap,h1,_,_⟩
  ·exact⟨_,_,_,h1⟩
  ·exact⟨_,_,_,h1⟩
 have yA:cd w (w.alloc (.cells (fq (.slice ra rn rc) ⟨0,24,[]⟩ (.slice none 0 0)) 49 (0,0))) w.heap.size (.slice ra rn rc) raw ⟨0,24,[]⟩ (.slice none 0 0):=by
  refine⟨h,⟨bg (Below.refl _ w) _,Nat.le_refl _,aj _ _,World.ownsRow_nil _ _ _ _,by simp[Value.ownBlock]⟩⟩
 have hpk:=λW=>yo t 5 W ht (by omega) (by omega)
 have h5:=pY t 5 (by omega);have hmk:=Ek (w0:=w) (yb:=w.heap.size) (rv:=.slice ra rn rc) (raw:=raw) 25 (jn t 5) ⟨0,24,[]⟩ (.slice none 0 0) _ h5 (by simp) (by simp) (by simp) yA;have Y5:Hid _:=hpk;have Hh:Hid _:=hmk;clear yA hpk hmk h
 go_enter Tryz.func8,Tryz.ntmps8
 go_wp2_with fail
 refine Calls.mono (Y5.out _) ?_;rintro _ w2 ⟨rfl,rfl⟩
 go_wp2_with fail
 refine Calls.mono Hh.out ?_;rintro _ w3 ⟨p,bJ,rfl,hf,hm,hk⟩;have HB:Hid _:=hm.ob.b0;have HK:Hid (eD w3 (sR t raw) p):=hk;clear hf hm hk Hh Y5
 go_wp2
 go_ret
 exact⟨p,rfl,HB.out,HK.out⟩
end Go.Proofs.YtpicaknklgccoabGreatDoor
