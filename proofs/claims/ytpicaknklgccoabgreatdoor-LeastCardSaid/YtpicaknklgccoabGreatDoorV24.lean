import Derived.Test.YtpicaknklgccoabGreatDoorV23
set_option maxHeartbeats 4000000
set_option maxRecDepth 100000
namespace Go.Proofs.YtpicaknklgccoabGreatDoor
open Go.RowKit
open Go.Lib (decDigits)
theorem Ry {rg:List UInt8}:∀ {vs:List Nat} {x:KE} {t:Nat},KT vs x t->(x.pt rg).bQ:=by
 intro vs x t h
 have hb:∀ k n,(cQ k n).length<=9000:=λk n=>by unfold cQ;split <;> simp[aE]
 induction h with
 | num h=>simp only[KE.pt,PT.bQ];rw[iP];omega
 | var _=>simp[KE.pt,PT.bQ,aE]
 | aP _ _ _ _ ha hd=>simp only[KE.pt,PT.bQ,bH];exact⟨hb _ _,ha,hd,trivial⟩
 | di _ _ _ ha hd hc=>simp only[KE.pt,PT.bQ,bH];exact⟨hb _ _,ha,hd,hc,trivial⟩
 | loop _ _ _ _ ha hd hc=>simp only[KE.pt,PT.bQ,bH];exact⟨hb _ _,ha,hd,hc,trivial⟩
 | pair _ _ _ _ ha hd=>simp only[KE.pt,PT.bQ,bH];exact⟨hb _ _,ha,hd,trivial⟩
 | fst _ _ _ ha=>simp only[KE.pt,PT.bQ,bH];exact⟨by simp,ha,trivial⟩
 | snd _ _ _ ha=>simp only[KE.pt,PT.bQ,bH];exact⟨by simp,ha,trivial⟩
 | two _ _ _ ha hd=>simp only[KE.pt,PT.bQ,bH];exact⟨hb _ _,ha,hd,trivial⟩
theorem Ex {rg:List UInt8}:∀ {vs:List Nat} {x:KE} {t:Nat},KT vs x t->dC (x.pt rg):=by
 intro vs x t h
 induction h with
 | num _=>exact .num
 | var _=>exact .name
 | aP _ _ _ _ ha hd=>simp only[KE.pt];exact .node (by decide) (by intro y hy;simp only[List.mem_cons,List.not_mem_nil,or_false] at hy;rcases hy with rfl | rfl;exact ha;exact hd)
 | di _ _ _ ha hd hc=>simp only[KE.pt];exact .node (by decide) (by intro y hy;simp only[List.mem_cons,List.not_mem_nil,or_false] at hy;rcases hy with rfl | rfl | rfl;exact ha;exact hd;exact hc)
 | loop _ _ _ _ ha hd hc=>simp only[KE.pt];exact .node (by decide) (by intro y hy;simp only[List.mem_cons,List.not_mem_nil,or_false] at hy;rcases hy with rfl | rfl | rfl;exact ha;exact hd;exact hc)
 | pair _ _ _ _ ha hd=>simp only[KE.pt];exact .node (by decide) (by intro y hy;simp only[List.mem_cons,List.not_mem_nil,or_false] at hy;rcases hy with rfl | rfl;exact ha;exact hd)
 | fst _ _ _ ha=>simp only[KE.pt];exact .node (by decide) (by intro y hy;simp only[List.mem_cons,List.not_mem_nil,or_false] at hy;subst hy;exact ha)
 | snd _ _ _ ha=>simp only[KE.pt];exact .node (by decide) (by intro y hy;simp only[List.mem_cons,List.not_mem_nil,or_false] at hy;subst hy;exact ha)
 | two hk _ _ ha hd=>simp only[KE.pt];exact .node (by rcases hk with rfl | rfl | rfl <;> decide) (by intro y hy;simp only[List.mem_cons,List.not_mem_nil,or_false] at hy;rcases hy with rfl | rfl;exact ha;exact hd)
theorem ld {fuel:Nat} {vs:List Nat} {x:KE} {t:Nat} (h:KT vs x t) (hl:vs.length<=100) (vals:List Vl) (st:cu) (bq:st.e=0->qj (cP vals) (wL vs)):VO (sS t) st (ev fuel (x.pt []) (cP vals) st) :=
 VP fuel (En h hl) (cP vals) st (Ry h) (Ex h) bq
theorem Ey {st:cu} {r:Vl × cu} (h:VO .n st r):∃ k,r.1=.n k/\k<=9999:=by
 by_cases e:r.2.e=0
 ·exact oz (h.1 e).2
 ·exact⟨0,h.2 e,by omega⟩
theorem Rz {w0:World} (yb fuel:Nat) (vs:List Nat) (a d:KE) (v:Nat) (jQ:KT vs a v) (hvl:vs.length<100) (aF:Lm w0 yb fuel a vs) (N7:Lm w0 yb fuel d (vs++[v])):Ev w0 yb fuel (.n2 .aP vs.length a d) vs:=by
 intro b vals ps st nv w hx hin bq hlen hs he hq;obtain⟨c,pa,pd,fD,oN,rM⟩:=TS hx
 have hne:b≠yb:=by have:=hin.ob.hyb;have:=fD.hb;omega
 have TH:c≠yb:=by have:=hin.ob.hyb;have:=fD.hg;omega
 have rY:ev fuel ((KE.n2 .aP vs.length a d).pt []) (cP vals) st=ev fuel (d.pt []) (cP (vals++[(ev fuel (a.pt []) (cP vals) { st with steps:=st.steps+1 }).1])) (ev fuel (a.pt []) (cP vals) { st with steps:=st.steps+1 }).2:=by
  rw[lA,hlen];simp only[KE.pt]
  conv=>lhs;unfold ev
  rw[j4 he hq];simp only[if_pos,gM];rfl
 rw[rY];have hs':=hs.step hq;have hr1:=ld (fuel:=fuel) jQ (by omega) vals { st with steps:=st.steps+1 } (λ_=>bq)
 have h1:=λm=>aF pa vals ps { st with steps:=st.steps+1 } nv _ oN (hin.begin m).1 (λ_=>bq) hlen hs'
 have hs2:=hs'.on (a.pt []) (cP vals);generalize ev fuel (a.pt []) (cP vals) { st with steps:=st.steps+1 }=r1 at *
 have h2:=λq cO w2 (bC:dX w0 w2 yb vals ps fuel r1.2 cO) (hq:dW w2 r1.1 q)=>TR pd q vals ps r1.1 r1.2 cO w2 (ev fuel (d.pt []) (cP (vals++[r1.1])) r1.2) (λbJ w' rN=>N7 pd (vals++[r1.1]) (ps++[q]) r1.2 bJ w' rM rN (λe=>by rw[lA,iQ,hlen];exact bq.snoc (hr1.1 e).2) (by simp[hlen]) hs2) bC hq (by omega)
 generalize ev fuel (d.pt []) (cP (vals++[r1.1])) r1.2=R at *;have df:=fD.on hin.ob.b0;have x0:=df.c0;have x2:=df.c2;have Zi:=df.ck 0 pa rfl;have QC:=df.hb;have xl2:=df.hg
 have q0:((bs Kw.aP.bytes).toList==[])=false:=by rw[aM];decide
 have q1:((bs Kw.aP.bytes).toList==[120])=false:=by rw[aM];decide
 have q2:((bs Kw.aP.bytes).toList==[108,101,116])=true:=by rw[aM];decide
 have y1:w.cell? ⟨yb,1,none⟩=some (.int .i64 fuel):=by rw[aa hin.ob.y];rfl
 have y2:w.cell? ⟨yb,2,none⟩=some (.int .i64 st.steps):=by rw[aa hin.ob.y];rfl
 have y4:w.cell? ⟨yb,4,none⟩=some (.bool false):=by rw[aa hin.ob.y];simp[dU,he]
 have f2:w.frozen? ⟨yb,2,none⟩=false:=ag hin.ob.y 2;have nV:=af hin.ob.y
 have q9:((st.steps:Int)==(fuel:Int))=false:=by rw[beq_eq_false_iff_ne];omega
 have AK:=hs.s;have TU:=hs.f;have HK:Hid _:=fD
 have AO:Hid _:=λm=>(hin.begin m).2
 have H1:Hid _:=h1;have H2:Hid _:=h2;clear fD df hx hin bq hs he rY hq oN rM aF N7 hs' hs2 hr1 h1 h2 hlen
 go_enter Tryz.func29,Tryz.ntmps29
 go_wp2_with fail
 go_quiet (fail)
 go_wp2_with fail
 refine Calls.mono (H1.out _) ?_;rintro _ w2 ⟨r,cO,rfl,dD,bC,Ez⟩;have df:=HK.out.on bC.ob.b0;have z2:=df.c2;have zk1:=df.ck 1 pd rfl;have zl1:=df.hb;have zl2:=df.hg;have hc2:=H2.out r cO w2 bC Ez;have cS:Hid _:=(AO.out _).trans dD;have xI:Hid _:=hc2;clear dD bC Ez df hc2 HK H1 H2 AO x0 x2 Zi y1 y2 y4 f2
 go_wp2_with fail
 refine Calls.mono xI.out ?_;rintro _ w3 ⟨r3,CC,rfl,cj,eO,yQ⟩;have ee:Hid _:=cS.out.trans cj;have HI3:Hid _:=eO;have wh:Hid _:=yQ;clear cj eO yQ xI cS
 go_wp2
 go_ret
 exact⟨r3,CC,rfl,ee.out,HI3.out,wh.out⟩
theorem VQ {w0:World} (yb fuel:Nat) (vs:List Nat) (a d f:KE) (jQ:KT vs a 0) (hvl:vs.length<=100) (aF:Lm w0 yb fuel a vs) (N7:Lm w0 yb fuel d vs) (Zj:Lm w0 yb fuel f vs):Ev w0 yb fuel (.n3 .di 0 a d f) vs:=by
 intro b vals ps st nv w hx hin bq hlen hs he hq;obtain⟨c,pa,pd,pf,fD,oN,rM,N8⟩:=TT hx
 have hne:b≠yb:=by have:=hin.ob.hyb;have:=fD.hb;omega
 have TH:c≠yb:=by have:=hin.ob.hyb;have:=fD.hg;omega
 have rY:ev fuel ((KE.n3 .di 0 a d f).pt []) (cP vals) st=if (ev fuel (a.pt []) (cP vals) { st with steps:=st.steps+1 }).1.num≠0 then ev fuel (d.pt []) (cP vals) (ev fuel (a.pt []) (cP vals) { st with steps:=st.steps+1 }).2 else ev fuel (f.pt []) (cP vals) (ev fuel (a.pt []) (cP vals) { st with steps:=st.steps+1 }).2:=by
  simp only[KE.pt]
  conv=>lhs;unfold ev
  rw[j4 he hq];simp only[reduceCtorEq,if_false,if_true,mw]
 rw[rY];have hs':=hs.step hq;have hr1:=ld (fuel:=fuel) jQ hvl vals { st with steps:=st.steps+1 } (λ_=>bq)
 have h1:=λm=>aF pa vals ps { st with steps:=st.steps+1 } nv _ oN (hin.begin m).1 (λ_=>bq) hlen hs'
 have hs2:=hs'.on (a.pt []) (cP vals);generalize ev fuel (a.pt []) (cP vals) { st with steps:=st.steps+1 }=r1 at *
 have h2:=λcO w2 (bC:dX w0 w2 yb vals ps fuel r1.2 cO)=>N7 pd vals ps r1.2 cO w2 rM bC (λ_=>bq) hlen hs2
 have h3:=λcO w2 (bC:dX w0 w2 yb vals ps fuel r1.2 cO)=>Zj pf vals ps r1.2 cO w2 N8 bC (λ_=>bq) hlen hs2
 obtain⟨k,hk,XP⟩:=Ey hr1
 obtain⟨R,hR⟩:∃ R,R=if r1.1.num≠0 then ev fuel (d.pt []) (cP vals) r1.2 else ev fuel (f.pt []) (cP vals) r1.2:=⟨_,rfl⟩
 rw[<- hR]
 have HRz:k=0->R=ev fuel (f.pt []) (cP vals) r1.2:=λh=>by rw[hR,hk];exact if_neg (λg=>g h)
 have HRy:k≠0->R=ev fuel (d.pt []) (cP vals) r1.2:=λh=>by rw[hR,hk];exact if_pos h
 have rG:∀ (w2:World) (r:Nat),dW w2 r1.1 r->r<w2.heap.size/\w2.cell? ⟨r,0,none⟩=some (.int .i64 k):=λw2 r h=>by
  have:=h.num;rw[hk] at this;exact this
 have df:=fD.on hin.ob.b0;have x0:=df.c0;have x2:=df.c2;have Zi:=df.ck 0 pa rfl;have QC:=df.hb;have xl2:=df.hg
 have q0:((bs Kw.di.bytes).toList==[])=false:=by rw[aM];decide
 have q1:((bs Kw.di.bytes).toList==[120])=false:=by rw[aM];decide
 have q2:((bs Kw.di.bytes).toList==[108,101,116])=false:=by rw[aM];decide
 have q3:((bs Kw.di.bytes).toList==[105,102])=true:=by rw[aM];decide
 have y1:w.cell? ⟨yb,1,none⟩=some (.int .i64 fuel):=by rw[aa hin.ob.y];rfl
 have y2:w.cell? ⟨yb,2,none⟩=some (.int .i64 st.steps):=by rw[aa hin.ob.y];rfl
 have y4:w.cell? ⟨yb,4,none⟩=some (.bool false):=by rw[aa hin.ob.y];simp[dU,he]
 have f2:w.frozen? ⟨yb,2,none⟩=false:=ag hin.ob.y 2;have nV:=af hin.ob.y
 have q9:((st.steps:Int)==(fuel:Int))=false:=by rw[beq_eq_false_iff_ne];omega
 have AK:=hs.s;have TU:=hs.f;have HK:Hid _:=fD
 have AO:Hid _:=λm=>(hin.begin m).2
 have H1:Hid _:=h1;have H2:Hid _:=h2;have H3:Hid _:=h3;have Ax:Hid _:=rG;clear fD df hx hin bq hs he rY hq oN rM N8 aF N7 Zj hs' hs2 hr1 h1 h2 h3 hk hR hlen rG
 go_enter Tryz.func29,Tryz.ntmps29
 go_wp2_with fail
 go_quiet (fail)
 go_wp2_with fail
 refine Calls.mono (H1.out _) ?_;rintro _ w2 ⟨r,cO,rfl,dD,bC,Ez⟩;have df:=HK.out.on bC.ob.b0;have z2:=df.c2;have zk1:=df.ck 1 pd rfl;have zk2:=df.ck 2 pf rfl;have zl1:=df.hb;have zl2:=df.hg;obtain⟨zr,zn⟩:=Ax.out w2 r Ez;have cS:Hid _:=(AO.out _).trans dD;have xI:Hid _:=H2.out cO w2 bC;have KL:Hid _:=H3.out cO w2 bC;clear dD bC Ez df HK H1 H2 H3 AO Ax x0 x2 Zi y1 y2 y4 f2
 by_cases ko:k=0
 ·have qk:((k:Int) != 0)=false:=by subst ko;rfl
  have HR:Hid _:=HRz ko;clear ko HRz HRy xI
  go_wp2_with fail
  refine Calls.mono KL.out ?_;rintro _ w3 ⟨r3,CC,rfl,cj,eO,yQ⟩;have ee:Hid _:=cS.out.trans cj;have HI3:Hid _:=eO;have wh:Hid _:=yQ;clear cj eO yQ KL cS
  go_wp2
  go_ret
  rw[HR.out];exact⟨r3,CC,rfl,ee.out,HI3.out,wh.out⟩
 ·have qk:((k:Int) != 0)=true:=by simp;omega
  have HR:Hid _:=HRy ko;clear ko HRz HRy KL
  go_wp2_with fail
  refine Calls.mono xI.out ?_;rintro _ w3 ⟨r3,CC,rfl,cj,eO,yQ⟩;have ee:Hid _:=cS.out.trans cj;have HI3:Hid _:=eO;have wh:Hid _:=yQ;clear cj eO yQ xI cS
  go_wp2
  go_ret
  rw[HR.out];exact⟨r3,CC,rfl,ee.out,HI3.out,wh.out⟩
theorem EA (f:Vl->cu->Vl × cu) (v:Vl) (st:cu):turns f 0 v st=(v,st):=rfl
theorem EB (f:Vl->cu->Vl × cu) (k:Nat) (v:Vl) (st:cu) (h:st.e=0):turns f (k+1) v st=turns f k (f v st).1 (f v st).2:=by simp only[turns];rw[if_neg (by simpa using h)]
theorem Ib (f:Vl->cu->Vl × cu) (k:Nat) (v:Vl) (st:cu) (h:st.e≠0):turns f k v st=(v,st):=by
 cases k with
 | zero=>rfl
 | succ k=>simp only[turns];rw[if_pos h]
theorem N9 {w0:World} (yb fuel:Nat) (vs:List Nat) (a d f:KE) (t:Nat) (jQ:KT vs a 0) (htd:KT vs d t) (htf:KT (vs++[t]) f t) (hvl:vs.length<100) (aF:Lm w0 yb fuel a vs) (N7:Lm w0 yb fuel d vs) (Zj:Lm w0 yb fuel f (vs++[t])):Ev w0 yb fuel (.n3 .loop vs.length a d f) vs:=by
 intro b vals ps st nv w hx hin bq hlen hs he hq;obtain⟨c,pa,pd,pf,fD,oN,rM,N8⟩:=TT hx
 have hne:b≠yb:=by have:=hin.ob.hyb;have:=fD.hb;omega
 have TH:c≠yb:=by have:=hin.ob.hyb;have:=fD.hg;omega
 obtain⟨F,hF⟩:∃ F:Vl->cu->Vl × cu,F=λv st=>ev fuel (f.pt []) (cP (vals++[v])) st:=⟨_,rfl⟩
 have rY:ev fuel ((KE.n3 .loop vs.length a d f).pt []) (cP vals) st=turns F (ev fuel (a.pt []) (cP vals) { st with steps:=st.steps+1 }).1.num (ev fuel (d.pt []) (cP vals) (ev fuel (a.pt []) (cP vals) { st with steps:=st.steps+1 }).2).1 (ev fuel (d.pt []) (cP vals) (ev fuel (a.pt []) (cP vals) { st with steps:=st.steps+1 }).2).2:=by
  rw[hF];simp only[lA,hlen];simp only[KE.pt]
  conv=>lhs;unfold ev
  rw[j4 he hq];simp only[reduceCtorEq,if_false,if_true,eu];rfl
 rw[rY];have hs':=hs.step hq;have hr1:=ld (fuel:=fuel) jQ (by omega) vals { st with steps:=st.steps+1 } (λ_=>bq)
 have h1:=λm=>aF pa vals ps { st with steps:=st.steps+1 } nv _ oN (hin.begin m).1 (λ_=>bq) hlen hs'
 have hs2:=hs'.on (a.pt []) (cP vals);generalize ev fuel (a.pt []) (cP vals) { st with steps:=st.steps+1 }=r1 at *;have dV:=ld (fuel:=fuel) htd (by omega) vals r1.2 (λ_=>bq)
 have h2:=λcO w2 (bC:dX w0 w2 yb vals ps fuel r1.2 cO)=>N7 pd vals ps r1.2 cO w2 rM bC (λ_=>bq) hlen hs2
 have hs3:=hs2.on (d.pt []) (cP vals);generalize ev fuel (d.pt []) (cP vals) r1.2=r2 at *;obtain⟨k,hk,XP⟩:=Ey hr1
 have h3:∀ (v:Vl) (q:Nat) (Gv:cu) (cO:Value) (w2:World),(Gv.e=0->v.has (sS t))->uh fuel Gv->dX w0 w2 yb vals ps fuel Gv cO->dW w2 v q ->
   Calls Tryz.prog 49 #[.pointer (some ⟨yb,0,none⟩),.pointer (some ⟨q,0,none⟩),.pointer (some ⟨pf,0,none⟩)] w2 λe w'=>∃ r bJ,e=.returned (.pointer (some ⟨r,0,none⟩))/\du w2 w' yb cO bJ/\dX w0 w' yb vals ps fuel (F v Gv).2 bJ/\dW w' (F v Gv).1 r:=by
  intro v q Gv cO w2 hv Dv bC QA;rw[hF];exact TR pf q vals ps v Gv cO w2 _ (λbJ w' rN=>Zj pf (vals++[v]) (ps++[q]) Gv bJ w' N8 rN (λe=>by rw[lA,iQ,hlen];exact bq.snoc (hv e)) (by simp[hlen]) Dv) bC QA (by omega)
 have h4:∀ (v:Vl) (Gv:cu),(Gv.e=0->v.has (sS t))->uh fuel Gv->((F v Gv).2.e=0->(F v Gv).1.has (sS t))/\uh fuel (F v Gv).2:=by
  intro v Gv hv Dv;rw[hF];exact⟨λe=>((ld (fuel:=fuel) htf (by simp;omega) (vals++[v]) Gv (λe=>by rw[lA,iQ,hlen];exact bq.snoc (hv e))).1 e).2,Dv.on _ _⟩
 have rG:∀ (w2:World) (r:Nat),dW w2 r1.1 r->r<w2.heap.size/\w2.cell? ⟨r,0,none⟩=some (.int .i64 k):=λw2 r h=>by
  have:=h.num;rw[hk] at this;exact this
 have hkn:r1.1.num=k:=by rw[hk];rfl
 rw[hkn];have df:=fD.on hin.ob.b0;have x0:=df.c0;have x2:=df.c2;have Zi:=df.ck 0 pa rfl;have QC:=df.hb;have xl2:=df.hg
 have q0:((bs Kw.loop.bytes).toList==[])=false:=by rw[aM];decide
 have q1:((bs Kw.loop.bytes).toList==[120])=false:=by rw[aM];decide
 have q2:((bs Kw.loop.bytes).toList==[108,101,116])=false:=by rw[aM];decide
 have q3:((bs Kw.loop.bytes).toList==[105,102])=false:=by rw[aM];decide
 have q4:((bs Kw.loop.bytes).toList==[108,111,111,112])=true:=by rw[aM];decide
 have y1:w.cell? ⟨yb,1,none⟩=some (.int .i64 fuel):=by rw[aa hin.ob.y];rfl
 have y2:w.cell? ⟨yb,2,none⟩=some (.int .i64 st.steps):=by rw[aa hin.ob.y];rfl
 have y4:w.cell? ⟨yb,4,none⟩=some (.bool false):=by rw[aa hin.ob.y];simp[dU,he]
 have f2:w.frozen? ⟨yb,2,none⟩=false:=ag hin.ob.y 2;have nV:=af hin.ob.y
 have q9:((st.steps:Int)==(fuel:Int))=false:=by rw[beq_eq_false_iff_ne];omega
 have AK:=hs.s;have TU:=hs.f
 have JM:Hid (r2.2.e=0->r2.1.has (sS t)):=λe=>(dV.1 e).2
 have MH:Hid _:=hs3;have HK:Hid _:=fD
 have AO:Hid _:=λm=>(hin.begin m).2
 have H1:Hid _:=h1;have H2:Hid _:=h2;have H3:Hid _:=h3;have H4:Hid _:=h4;have Ax:Hid _:=rG;clear fD df hx hin bq hs he rY hq oN rM N8 aF N7 Zj hs' hs2 hs3 hr1 dV h1 h2 h3 h4 hk hkn hlen rG hF
 go_enter Tryz.func29,Tryz.ntmps29
 go_wp2_with fail
 go_quiet (fail)
 go_wp2_with fail
 refine Calls.mono (H1.out _) ?_;rintro _ w2 ⟨rn,cO,rfl,dD,bC,Ez⟩;have df:=HK.out.on bC.ob.b0;have z2:=df.c2;have zk1:=df.ck 1 pd rfl;have zl1:=df.hb;have zl2:=df.hg;have cS:Hid _:=(AO.out _).trans dD;have xI:Hid _:=H2.out cO w2 bC;have HI2:Hid _:=bC.ob;have Y3:Hid _:=Ez;clear dD bC Ez df H1 H2 AO x0 x2 Zi y1 y2 y4 f2
 go_wp2_with fail
 refine Calls.mono xI.out ?_;rintro _ w3 ⟨r3,CC,rfl,cj,eO,yQ⟩;have abp:Hid _:=Y3.out.fr HI2.out cj;have ee:Hid _:=cS.out.trans cj;have HI3:Hid _:=eO;have wh:Hid _:=yQ;clear cj eO yQ xI cS HI2 Y3 z2 zk1
 go_wp2_with fail
 go_loopw [9,10] (λvv i wr=>∃ (j:Nat) (v:Vl) (r:Nat) (Bv:cu) (iD:Value),j<=k/\i=.int .i64 j/\vv=.pointer (some ⟨r,0,none⟩)/\dW wr v r/\turns F k r2.1 r2.2=turns F (k-j) v Bv/\(Bv.e=0->v.has (sS t))/\uh fuel Bv/\du w wr yb nv iD/\dX w0 wr yb vals ps fuel Bv iD/\dW wr r1.1 rn) (λ_ i _=>k-(intOf i).toNat)
 case atStart=>exact⟨0,r2.1,r3,r2.2,CC,by omega,rfl,rfl,wh.out,rfl,JM.out,MH.out,ee.out,HI3.out,abp.out⟩
 case round =>
  obtain⟨j,v,r,Bv,iD,hj,rfl,rfl,Lr,htu,hv,Dv,iY,cx,Oa⟩:=hrel
  have e4:wr.cell? ⟨yb,4,none⟩=some (.bool (decide (Bv.e≠0))):=by rw[aa cx.ob.y];rfl
  have VB:=af cx.ob.y;obtain⟨zr,zn⟩:=Ax.out wr rn Oa;have df:=HK.out.on cx.ob.b0;have u2:=df.c2;have uk2:=df.ck 2 pf rfl;have Zk:=df.hb;have Zl:=df.hg;have HTU:Hid _:=htu;have kA:Hid _:=iY;have HI4:Hid _:=cx;have HKV:Hid _:=Lr
  by_cases TQ:j=k
  ·have HE:Hid _:=EA F v Bv
   have hjk:¬ j<k:=by omega
   have abq:Hid (turns F k r2.1 r2.2=turns F 0 v Bv):=by
    show _=_
    rw[HTU.out,TQ,Nat.sub_self]
   subst TQ;clear htu iY cx df hv Dv Oa Lr
   go_wp2
   go_ret
   rw[abq.out,HE.out];exact⟨r,iD,rfl,kA.out,HI4.out,HKV.out⟩
  ·have acT:j<k:=by omega
   by_cases XQ:Bv.e=0
   ·rw[show decide (Bv.e≠0)=false by simp[XQ]] at e4
    obtain⟨i,hi⟩:∃ i,k-j=i+1:=⟨k-j-1,by omega⟩;have h4:=H4.out v Bv hv Dv
    have HE:Hid (turns F (k-j) v Bv=turns F (k-(j+1)) (F v Bv).1 (F v Bv).2):=by
     show _=_
     rw[hi,EB F i v Bv XQ,show k-(j+1)=i by omega]
    have H5:Hid _:=h4;have HC:Hid _:=H3.out v r Bv iD wr hv Dv cx Lr;have abr:Hid _:=Oa;clear htu iY cx df hv Dv h4 XQ Oa Lr hi
    go_wp2_with fail
    refine Calls.mono HC.out ?_;rintro _ w5 ⟨r5,Hm,rfl,qo,oA,Zm⟩;have gB:Hid _:=kA.out.trans qo;have jI:Hid _:=oA;have Jx:Hid _:=Zm;have HN5:Hid _:=abr.out.fr HI4.out.ob qo;clear qo oA Zm HC
    go_wp2
    go_roundw
    case rel=>exact⟨j+1,(F v Bv).1,r5,(F v Bv).2,Hm,by omega,by go_num,rfl,Jx.out,by rw[HTU.out,HE.out],H5.out.1,H5.out.2,gB.out,jI.out,HN5.out⟩
    case measure=>simp[intOf];omega
   ·rw[show decide (Bv.e≠0)=true by simp[XQ]] at e4
    have HE:Hid _:=Ib F (k-j) v Bv XQ;clear htu iY cx df hv Dv XQ Oa Lr
    go_wp2
    go_ret
    rw[HTU.out,HE.out];exact⟨r,iD,rfl,kA.out,HI4.out,HKV.out⟩
def EC (w0:World) (yb fuel:Nat) (k:Kw) (A B:Ty):Prop :=
 ∀ (b c n:Nat) (ks:List Nat) (vals:List Vl) (ps:List Nat) (st:cu) (nv:Value) (w:World) (x y:Vl) (px py:Nat),Ew w0 b c k n ks->dX w0 w yb vals ps fuel st nv->uh fuel st->x.has A->y.has B->dW w x px->dW w y py ->
  Calls Tryz.prog 50 #[.pointer (some ⟨yb,0,none⟩),.pointer (some ⟨b,0,none⟩),.pointer (some ⟨px,0,none⟩),.pointer (some ⟨py,0,none⟩)] w λe w'=>∃ r,e=.returned (.pointer (some ⟨r,0,none⟩))/\du w w' yb nv nv/\dX w0 w' yb vals ps fuel (cT k [x,y] st).2 nv/\dW w' (cT k [x,y] st).1 r
def Ob (w0:World) (yb fuel:Nat) (k:Kw) (A:Ty):Prop :=
 ∀ (b c n:Nat) (ks:List Nat) (vals:List Vl) (ps:List Nat) (st:cu) (nv:Value) (w:World) (x:Vl) (px:Nat),Ew w0 b c k n ks->dX w0 w yb vals ps fuel st nv->x.has A->dW w x px ->
  Calls Tryz.prog 50 #[.pointer (some ⟨yb,0,none⟩),.pointer (some ⟨b,0,none⟩),.pointer (some ⟨px,0,none⟩),.pointer none] w λe w'=>∃ r,e=.returned (.pointer (some ⟨r,0,none⟩))/\du w w' yb nv nv/\dX w0 w' yb vals ps fuel (cT k [x] st).2 nv/\dW w' (cT k [x] st).1 r
theorem ED {W w:World} {b:Nat} (h:Below b W w):Below b W w.drew:=h.trans ⟨rfl,rfl,rfl,Nat.le_refl _,λ_ _=>rfl⟩
theorem Ic {w0:World} (yb fuel:Nat) (A B:Ty):EC w0 yb fuel .pair A B:=by
 intro b c n ks vals ps st nv w x y px py fD hin hs _ _ Ie Oc
 have hne:b≠yb:=by have:=hin.ob.hyb;have:=fD.hb;omega
 have df:=fD.on hin.ob.b0;have x0:=df.c0;have QC:=df.hb
 have y3:w.cell? ⟨yb,3,none⟩=some (.int .i64 st.cells):=by rw[aa hin.ob.y];rfl
 have f3:w.frozen? ⟨yb,3,none⟩=false:=ag hin.ob.y 3;have nV:=af hin.ob.y
 have q0:((bs Kw.pair.bytes).toList==[112,97,105,114])=true:=by rw[aM];decide
 have hcs:=hs.c;have AK:=hs.s;have TU:=hs.f;have hset:=hin.set 3 (.int .i64 ((st.cells:Int)+1)) (st':={ st with cells:=st.cells+1 }) (by simp[dU]);have hfr:=du.ym w yb nv 3 (.int .i64 ((st.cells:Int)+1));have VR:=Ie.fr hin.ob hfr;have VT:=Oc.fr hin.ob hfr
 have hsz:(w.setCell ⟨yb,3,none⟩ (.int .i64 ((st.cells:Int)+1))).heap.size=w.heap.size:=by simp[World.setCell]
 have hm:cT .pair [x,y] st=(.p x y,{ st with cells:=st.cells+1 }):=rfl;rw[hm];obtain⟨W,hW⟩:∃ W,W=w.setCell ⟨yb,3,none⟩ (.int .i64 ((st.cells:Int)+1)):=⟨_,rfl⟩;rw[<- hW] at hset hfr VR VT hsz;have Cq:Hid _:=hset;have sC:Hid _:=hfr;have HX:Hid _:=VR;have HY:Hid _:=VT;have Vq:Hid _:=hsz;have HW:Hid _:=hW;clear fD df hin hs Ie Oc hset hfr VR VT hsz hm hW
 go_enter Tryz.func50,Tryz.ntmps50
 go_wp2
 go_ret
 rw[<- HW.out];have rX:=bg (Below.refl _ W) (.cells (MG 0 (.pointer (some ⟨px,0,none⟩)) (.pointer (some ⟨py,0,none⟩))) 29 (0,0));refine⟨w.heap.size,rfl,sC.out.trans (du.below rX _ _),Cq.out.grow rX,px,py,?_,HX.out.below rX,HY.out.below rX⟩;rw[<- Vq.out];exact aj _ _
theorem Ls {w0:World} (yb fuel:Nat) (r0:Nat) (A B:Ty):Ob w0 yb fuel .fst (.p r0 A B):=by
 intro b c n ks vals ps st nv w x px fD hin hx Ie
 obtain⟨u,v,rfl⟩:∃ u v,x=.p u v:=by
  cases x with
  | n k=>exact hx.elim
  | p u v=>exact⟨u,v,rfl⟩
 obtain⟨pu,pv,h1,h2,h3⟩:=Ie;have df:=fD.on hin.ob.b0;have x0:=df.c0;have QC:=df.hb
 have p1:w.cell? ⟨px,1,none⟩=some (.pointer (some ⟨pu,0,none⟩)):=by rw[aa h1];rfl
 have pl:=af h1
 have q0:((bs Kw.fst.bytes).toList==[112,97,105,114])=false:=by rw[aM];decide
 have q1:((bs Kw.fst.bytes).toList==[102,115,116])=true:=by rw[aM];decide
 have nn:Hid _:=hin;have HU:Hid _:=h2;have hm:cT .fst [.p u v] st=(u,st):=rfl;rw[hm];clear fD df hin hx h1 h2 h3 hm
 go_enter Tryz.func50,Tryz.ntmps50
 go_wp2
 go_ret
 exact⟨pu,rfl,du.refl _ _ _,nn.out,HU.out⟩
theorem Lt {w0:World} (yb fuel:Nat) (r0:Nat) (A B:Ty):Ob w0 yb fuel .snd (.p r0 A B):=by
 intro b c n ks vals ps st nv w x px fD hin hx Ie
 obtain⟨u,v,rfl⟩:∃ u v,x=.p u v:=by
  cases x with
  | n k=>exact hx.elim
  | p u v=>exact⟨u,v,rfl⟩
 obtain⟨pu,pv,h1,h2,h3⟩:=Ie;have df:=fD.on hin.ob.b0;have x0:=df.c0;have QC:=df.hb
 have p2:w.cell? ⟨px,2,none⟩=some (.pointer (some ⟨pv,0,none⟩)):=by rw[aa h1];rfl
 have pl:=af h1
 have q0:((bs Kw.snd.bytes).toList==[112,97,105,114])=false:=by rw[aM];decide
 have q1:((bs Kw.snd.bytes).toList==[102,115,116])=false:=by rw[aM];decide
 have q2:((bs Kw.snd.bytes).toList==[115,110,100])=true:=by rw[aM];decide
 have nn:Hid _:=hin;have HU:Hid _:=h3;have hm:cT .snd [.p u v] st=(v,st):=rfl;rw[hm];clear fD df hin hx h1 h2 h3 hm
 go_enter Tryz.func50,Tryz.ntmps50
 go_wp2
 go_ret
 exact⟨pv,rfl,du.refl _ _ _,nn.out,HU.out⟩
theorem Lu {w0:World} (yb fuel:Nat):EC w0 yb fuel .add .n .n:=by
 intro b c n ks vals ps st nv w x y px py fD hin _ hx hy Ie Oc;obtain⟨i,rfl,hi⟩:=oz hx;obtain⟨j,rfl,hj⟩:=oz hy;obtain⟨pl,p0⟩:=Ie.num;obtain⟨pl',Zn⟩:=Oc.num;simp only[Vl.num] at p0 Zn;have df:=fD.on hin.ob.b0;have x0:=df.c0;have QC:=df.hb
 have q0:((bs Kw.add.bytes).toList==[112,97,105,114])=false:=by rw[aM];decide
 have q1:((bs Kw.add.bytes).toList==[102,115,116])=false:=by rw[aM];decide
 have q2:((bs Kw.add.bytes).toList==[115,110,100])=false:=by rw[aM];decide
 have q3:((bs Kw.add.bytes).toList==[97,100,100])=true:=by rw[aM];decide
 have em:((i:Int)+(j:Int)) % 10000=(((i+j) % 10000:Nat):Int):=by omega
 have hm:cT .add [.n i,.n j] st=(.n ((i+j) % 10000),st):=rfl;rw[hm];have nn:Hid _:=hin;clear fD df hin hx hy Ie Oc hm;generalize (i+j) % 10000=s at *
 go_enter Tryz.func50,Tryz.ntmps50
 go_wp2
 go_region
 all_goals
  go_wp2
  go_ret
  have rX:=ED (bg (Below.refl _ w) (.cells (MG s (.pointer none) (.pointer none)) 29 (0,0)));exact⟨w.heap.size,rfl,du.below rX _ _,nn.out.grow rX,aj w _⟩
theorem Lv {w0:World} (yb fuel:Nat):EC w0 yb fuel .sub .n .n:=by
 intro b c n ks vals ps st nv w x y px py fD hin _ hx hy Ie Oc;obtain⟨i,rfl,hi⟩:=oz hx;obtain⟨j,rfl,hj⟩:=oz hy;obtain⟨pl,p0⟩:=Ie.num;obtain⟨pl',Zn⟩:=Oc.num;simp only[Vl.num] at p0 Zn;have df:=fD.on hin.ob.b0;have x0:=df.c0;have QC:=df.hb
 have q0:((bs Kw.sub.bytes).toList==[112,97,105,114])=false:=by rw[aM];decide
 have q1:((bs Kw.sub.bytes).toList==[102,115,116])=false:=by rw[aM];decide
 have q2:((bs Kw.sub.bytes).toList==[115,110,100])=false:=by rw[aM];decide
 have q3:((bs Kw.sub.bytes).toList==[97,100,100])=false:=by rw[aM];decide
 have q4:((bs Kw.sub.bytes).toList==[115,117,98])=true:=by rw[aM];decide
 have em:((i:Int)+10000-(j:Int)) % 10000=(((i+10000-j) % 10000:Nat):Int):=by omega
 have hm:cT .sub [.n i,.n j] st=(.n ((i+10000-j) % 10000),st):=rfl;rw[hm];have nn:Hid _:=hin;clear fD df hin hx hy Ie Oc hm;generalize (i+10000-j) % 10000=s at *
 go_enter Tryz.func50,Tryz.ntmps50
 go_wp2
 go_region
 all_goals
  go_wp2
  go_ret
  have rX:=ED (bg (Below.refl _ w) (.cells (MG s (.pointer none) (.pointer none)) 29 (0,0)));exact⟨w.heap.size,rfl,du.below rX _ _,nn.out.grow rX,aj w _⟩
theorem Ig {w0:World} (yb fuel:Nat):EC w0 yb fuel .less .n .n:=by
 intro b c n ks vals ps st nv w x y px py fD hin _ hx hy Ie Oc;obtain⟨i,rfl,hi⟩:=oz hx;obtain⟨j,rfl,hj⟩:=oz hy;obtain⟨pl,p0⟩:=Ie.num;obtain⟨pl',Zn⟩:=Oc.num;simp only[Vl.num] at p0 Zn;have df:=fD.on hin.ob.b0;have x0:=df.c0;have QC:=df.hb
 have q0:((bs Kw.less.bytes).toList==[112,97,105,114])=false:=by rw[aM];decide
 have q1:((bs Kw.less.bytes).toList==[102,115,116])=false:=by rw[aM];decide
 have q2:((bs Kw.less.bytes).toList==[115,110,100])=false:=by rw[aM];decide
 have q3:((bs Kw.less.bytes).toList==[97,100,100])=false:=by rw[aM];decide
 have q4:((bs Kw.less.bytes).toList==[115,117,98])=false:=by rw[aM];decide
 have hm:cT .less [.n i,.n j] st=(.n (if i<j then 1 else 0),st):=rfl;rw[hm];have nn:Hid _:=hin;clear fD df hin hx hy Ie Oc hm
 by_cases hij:i<j
 ·rw[if_pos hij]
  go_enter Tryz.func50,Tryz.ntmps50
  go_wp2
  go_quiet (fail)
  go_wp2
  go_ret
  have rX:=bg (dx w nq) (.cells (MG 1 (.pointer none) (.pointer none)) 29 (0,0));exact⟨w.heap.size,rfl,du.below rX _ _,nn.out.grow rX,aj (w.drewN nq) _⟩
 ·rw[if_neg hij]
  go_enter Tryz.func50,Tryz.ntmps50
  go_wp2
  go_quiet (fail)
  go_wp2
  go_ret
  have rX:=bg (dx w nq) (.cells (MG 0 (.pointer none) (.pointer none)) 29 (0,0));exact⟨w.heap.size,rfl,du.below rX _ _,nn.out.grow rX,aj (w.drewN nq) _⟩
theorem du.Ih {w w':World} {yb q o:Nat} {x nv bJ:Value} (h:du w w' yb nv bJ) (hq:w.heap.size<=q):du w (w'.setCell ⟨q,o,none⟩ x) yb nv bJ :=
 ⟨by have:=h.size;simpa [World.setCell] using this,λk hk hy hn=>by rw[aq _ _ (by simp only;omega)];exact h.blk k hk hy hn,h.n⟩
theorem dW.lf {w:World} {q o:Nat} {x:Value} {arr:Array Value} (hq:w.heap[q]?=some (.cells arr 86 (0,0))) {v:Vl} {p:Nat} (h:dW w v p):dW (w.setCell ⟨q,o,none⟩ x) v p :=
 h.keep (λk VU hk=>by
  rw[aq _ _ (by
   simp only;rintro rfl;rw[hq] at hk;simp only[Option.some.injEq,Obj.cells.injEq] at hk
   exact absurd hk.2.1 (by decide))]
  exact hk)
theorem dX.lf {w0 w:World} {yb:Nat} {vals:List Vl} {ps:List Nat} {fuel:Nat} {st:cu} {nv:Value} {q o:Nat} {x:Value} {arr:Array Value} (h:dX w0 w yb vals ps fuel st nv) (hq:w.heap[q]?=some (.cells arr 86 (0,0))) (h0:w0.heap.size<=q):dX w0 (w.setCell ⟨q,o,none⟩ x) yb vals ps fuel st nv:=by
 have hne:∀ (k:Nat) (VU:Array Value) (U:TypeId) (fz:Nat × Nat),U≠86->w.heap[k]?=some (.cells VU U fz)->(w.setCell ⟨q,o,none⟩ x).heap[k]?=w.heap[k]?:=by
  intro k VU U fz hU hk;refine aq _ _ ?_;simp only;rintro rfl;rw[hq] at hk;simp only[Option.some.injEq,Obj.cells.injEq] at hk;exact hU hk.2.1.symm
 refine⟨⟨h.ob.b0.setCell (p:=⟨q,o,none⟩) h0 _,h.ob.hyb,?_,ay h.ob.n (λk hk=>?_),h.ob.ny⟩,h.len,λi v p h1 h2=>(h.v i v p h1 h2).lf hq⟩
 ·rw[hne yb _ _ _ (by decide) h.ob.y];exact h.ob.y
 ·rcases h.ob.n.2 with ⟨hv,_⟩ | ⟨g,cap,cur,hv,_,hg,_⟩
  ·rw[hv] at hk;cases hk
  ·rw[hv] at hk
   simp only[Value.ownBlock,Option.some.injEq] at hk;subst hk;exact hne _ _ _ _ (by decide) hg
def yR (a b:Value):Obj:=.cells #[a,b] 86 (0,0)
theorem xm {w0:World} (yb fuel:Nat) (vs:List Nat) (k:Kw) (n:Nat) (a d:KE) (ta td:Nat) (hk1:k≠.aP) (hk2:k≠.di) (qQ:k≠.loop) (jQ:KT vs a ta) (htd:KT vs d td) (hvl:vs.length<=100) (aF:Lm w0 yb fuel a vs) (N7:Lm w0 yb fuel d vs) (Zo:EC w0 yb fuel k (sS ta) (sS td)):Ev w0 yb fuel (.n2 k n a d) vs:=by
 intro b vals ps st nv w hx hin bq hlen hs he hq;obtain⟨c,pa,pd,fD,oN,rM⟩:=TS hx
 have hne:b≠yb:=by have:=hin.ob.hyb;have:=fD.hb;omega
 have TH:c≠yb:=by have:=hin.ob.hyb;have:=fD.hg;omega
 have rY:ev fuel ((KE.n2 k n a d).pt []) (cP vals) st=sV fuel k [a.pt [],d.pt []] (cP vals) { st with steps:=st.steps+1 }:=by
  simp only[KE.pt];rw[nI fuel _ k _ _ _ (cP vals) st hk1 hk2 qQ,j4 he hq]
 rw[rY,CJ];have hs':=hs.step hq;have hr1:=ld (fuel:=fuel) jQ hvl vals { st with steps:=st.steps+1 } (λ_=>bq)
 have h1:=λcO w2 (bC:dX w0 w2 yb vals ps fuel { st with steps:=st.steps+1 } cO)=>aF pa vals ps { st with steps:=st.steps+1 } cO w2 oN bC (λ_=>bq) hlen hs'
 have hs2:=hs'.on (a.pt []) (cP vals);generalize ev fuel (a.pt []) (cP vals) { st with steps:=st.steps+1 }=r1 at *;have dV:=ld (fuel:=fuel) htd hvl vals r1.2 (λ_=>bq)
 have h2:=λcO w2 (bC:dX w0 w2 yb vals ps fuel r1.2 cO)=>N7 pd vals ps r1.2 cO w2 rM bC (λ_=>bq) hlen hs2
 have hs3:=hs2.on (d.pt []) (cP vals);generalize ev fuel (d.pt []) (cP vals) r1.2=r2 at *
 obtain⟨R,hR⟩:∃ R,R=if r2.2.e≠0 then (Vl.n 0,r2.2) else cT k [r1.1,r2.1] r2.2:=⟨_,rfl⟩
 rw[<- hR]
 have MB:Hid (r2.2.e=0->R=cT k [r1.1,r2.1] r2.2):=λh=>by rw[hR,if_neg (λg=>g h)]
 have RA:Hid (r2.2.e≠0->R=(Vl.n 0,r2.2)):=λh=>by rw[hR,if_pos h]
 have hm:∀ (cO:Value) (w2:World) (p1 p2:Nat),r2.2.e=0->dX w0 w2 yb vals ps fuel r2.2 cO->dW w2 r1.1 p1->dW w2 r2.1 p2 ->
   Calls Tryz.prog 50 #[.pointer (some ⟨yb,0,none⟩),.pointer (some ⟨b,0,none⟩),.pointer (some ⟨p1,0,none⟩),.pointer (some ⟨p2,0,none⟩)] w2 λe w'=>∃ r,e=.returned (.pointer (some ⟨r,0,none⟩))/\du w2 w' yb cO cO/\dX w0 w' yb vals ps fuel (cT k [r1.1,r2.1] r2.2).2 cO/\dW w' (cT k [r1.1,r2.1] r2.2).1 r:=by
  intro cO w2 p1 p2 e bC JN Zp;have a2:=dV.1 e;exact Zo b c n [pa,pd] vals ps r2.2 cO w2 r1.1 r2.1 p1 p2 fD bC hs3 (hr1.1 a2.1).2 a2.2 JN Zp
 have df:=fD.on hin.ob.b0;have x0:=df.c0;have QC:=df.hb;have xl2:=df.hg
 have q0:((bs k.bytes).toList==[])=false:=by rw[aM];cases k <;> decide
 have q1:((bs k.bytes).toList==[120])=false:=by rw[aM];cases k <;> decide
 have q2:((bs k.bytes).toList==[108,101,116])=false:=by rw[aM];cases k <;> first | decide | exact absurd rfl hk1
 have q3:((bs k.bytes).toList==[105,102])=false:=by rw[aM];cases k <;> first | decide | exact absurd rfl hk2
 have q4:((bs k.bytes).toList==[108,111,111,112])=false:=by rw[aM];cases k <;> first | decide | exact absurd rfl qQ
 have y1:w.cell? ⟨yb,1,none⟩=some (.int .i64 fuel):=by rw[aa hin.ob.y];rfl
 have y2:w.cell? ⟨yb,2,none⟩=some (.int .i64 st.steps):=by rw[aa hin.ob.y];rfl
 have y4:w.cell? ⟨yb,4,none⟩=some (.bool false):=by rw[aa hin.ob.y];simp[dU,he]
 have f2:w.frozen? ⟨yb,2,none⟩=false:=ag hin.ob.y 2;have nV:=af hin.ob.y
 have q9:((st.steps:Int)==(fuel:Int))=false:=by rw[beq_eq_false_iff_ne];omega
 have AK:=hs.s;have TU:=hs.f;have HK:Hid _:=fD
 have AO:Hid _:=λm=>hin.begin m
 have XR:Hid _:=hin.ob.b0.size;have H1:Hid _:=h1;have H2:Hid _:=h2;have HM:Hid _:=hm;clear fD df hx hin bq hs he rY hq oN rM aF N7 hs' hs2 hs3 hr1 dV h1 h2 hm hlen Zo hR jQ htd
 go_enter Tryz.func29,Tryz.ntmps29
 go_wp2_with fail
 go_quiet (fail)
 go_wp2_with fail
 have Zq:Hid _:=AO.out nq;have HNQ:Hid _:=ui w nq ⟨yb,2,none⟩ (.int .i64 ((st.steps:Int)+1)) Rv;clear AO x0 y1 y2 y4 f2;generalize hQ:w.heap.size=Q at *
 go_loopw [11] (λi wr=>∃ (j:Nat) (iD:Value),i=.int .i64 j/\du w wr yb nv iD/\((j=0/\dX w0 wr yb vals ps fuel { st with steps:=st.steps+1 } iD/\wr.heap[Q]?=some (yR (.pointer none) (.pointer none)))\/(j=1/\∃ p1:Nat,dX w0 wr yb vals ps fuel r1.2 iD/\wr.heap[Q]?=some (yR (.pointer (some ⟨p1,0,none⟩)) (.pointer none))/\dW wr r1.1 p1)\/(j=2/\∃ p1 p2:Nat,dX w0 wr yb vals ps fuel r2.2 iD/\wr.heap[Q]?=some (yR (.pointer (some ⟨p1,0,none⟩)) (.pointer (some ⟨p2,0,none⟩)))/\dW wr r1.1 p1/\dW wr r2.1 p2))) (λi _=>2-(intOf i).toNat)
 case atStart=>exact⟨0,nv,rfl,Zq.out.2,Or.inl ⟨rfl,Zq.out.1,HNQ.out⟩⟩
 case round =>
  obtain⟨j,iD,rfl,hfr,hP⟩:=hrel;have HF:Hid _:=hfr
  rcases hP with ⟨rfl,cx,Bw⟩ | ⟨rfl,p1,cx,Bw,JN⟩ | ⟨rfl,p1,p2,cx,Bw,JN,Zp⟩
  ·have df:=HK.out.on cx.ob.b0
   have u2:=df.c2;have uk:=df.ck 0 pa rfl;have Zk:=df.hb;have Zl:=df.hg;have HI:Hid _:=cx;have TV:Hid _:=Bw;have HC:Hid _:=H1.out iD wr cx;clear hfr cx Bw df
   go_wp2_with fail
   refine Calls.mono HC.out ?_;rintro _ w2 ⟨r,Hm,rfl,eY,pG,JO⟩;have xo:w2.heap[Q]?=some (yR (.pointer none) (.pointer none)):=HI.out.ob.other eY (by decide) (by decide) TV.out;have ql:=af xo;have qf:w2.frozen? ⟨Q,0,none⟩=false:=ag xo 0
   have qc:w2.cell? ⟨Q,0,none⟩=some (.pointer none):=by rw[aa xo];rfl
   have Od:w0.heap.size<=Q:=by have:=XR.out;omega
   have gB:Hid _:=(HF.out.trans eY).Ih (q:=Q) (o:=0) (x:=.pointer (some ⟨r,0,none⟩)) (by omega);have jI:Hid _:=pG.lf (o:=0) (x:=.pointer (some ⟨r,0,none⟩)) xo Od;have RB:Hid _:=JO.lf (o:=0) (x:=.pointer (some ⟨r,0,none⟩)) xo;have Zr:Hid ((w2.setCell ⟨Q,0,none⟩ (.pointer (some ⟨r,0,none⟩))).heap[Q]?=some (yR (.pointer (some ⟨r,0,none⟩)) (.pointer none))):=(aA xo 0 _).trans rfl;clear eY pG JO xo HC HI TV
   go_wp2
   go_roundw
   case rel=>exact⟨1,Hm,by first | rfl | go_num,gB.out,Or.inr (Or.inl ⟨rfl,r,jI.out,Zr.out,RB.out⟩)⟩
   case measure=>simp[intOf]
  ·have df:=HK.out.on cx.ob.b0
   have u2:=df.c2;have uk:=df.ck 1 pd rfl;have Zk:=df.hb;have Zl:=df.hg;have HI:Hid _:=cx;have TV:Hid _:=Bw;have HV1:Hid _:=JN;have HC:Hid _:=H2.out iD wr cx;clear hfr cx Bw df JN
   go_wp2_with fail
   refine Calls.mono HC.out ?_;rintro _ w2 ⟨r,Hm,rfl,eY,pG,JO⟩;have xo:w2.heap[Q]?=some (yR (.pointer (some ⟨p1,0,none⟩)) (.pointer none)):=HI.out.ob.other eY (by decide) (by decide) TV.out;have ql:=af xo;have qf:w2.frozen? ⟨Q,1,none⟩=false:=ag xo 1
   have qc:w2.cell? ⟨Q,1,none⟩=some (.pointer none):=by rw[aa xo];rfl
   have Od:w0.heap.size<=Q:=by have:=XR.out;omega
   have gB:Hid _:=(HF.out.trans eY).Ih (q:=Q) (o:=1) (x:=.pointer (some ⟨r,0,none⟩)) (by omega);have jI:Hid _:=pG.lf (o:=1) (x:=.pointer (some ⟨r,0,none⟩)) xo Od;have RB:Hid _:=JO.lf (o:=1) (x:=.pointer (some ⟨r,0,none⟩)) xo;have HV6:Hid _:=(HV1.out.fr HI.out.ob eY).lf (o:=1) (x:=.pointer (some ⟨r,0,none⟩)) xo;have Zr:Hid ((w2.setCell ⟨Q,1,none⟩ (.pointer (some ⟨r,0,none⟩))).heap[Q]?=some (yR (.pointer (some ⟨p1,0,none⟩)) (.pointer (some ⟨r,0,none⟩)))):=(aA xo 1 _).trans rfl;clear eY pG JO xo HC HI TV HV1
   go_wp2
   go_roundw
   case rel=>exact⟨2,Hm,by first | rfl | go_num,gB.out,Or.inr (Or.inr ⟨rfl,p1,r,jI.out,Zr.out,HV6.out,RB.out⟩)⟩
   case measure=>simp[intOf]
  ·have df:=HK.out.on cx.ob.b0
   have u2:=df.c2;have Zk:=df.hb;have Zl:=df.hg
   have e4:wr.cell? ⟨yb,4,none⟩=some (.bool (decide (r2.2.e≠0))):=by rw[aa cx.ob.y];rfl
   have VB:=af cx.ob.y
   have qa:wr.cell? ⟨Q,0,none⟩=some (.pointer (some ⟨p1,0,none⟩)):=by rw[aa Bw];rfl
   have qb:wr.cell? ⟨Q,1,none⟩=some (.pointer (some ⟨p2,0,none⟩)):=by rw[aa Bw];rfl
   have ql:=af Bw;have HI:Hid _:=cx
   by_cases he2:r2.2.e=0
   ·rw[show decide (r2.2.e≠0)=false by simp[he2]] at e4
    have HC:Hid _:=HM.out iD wr p1 p2 he2 cx JN Zp;have HR:Hid _:=MB.out he2;clear hfr cx Bw df JN Zp he2
    go_wp2_with fail
    refine Calls.mono HC.out ?_;rintro _ w2 ⟨r,rfl,eY,pG,JO⟩;have gB:Hid _:=HF.out.trans eY;have jI:Hid _:=pG;have RB:Hid _:=JO;clear eY pG JO HC
    go_wp2
    go_ret
    rw[HR.out];exact⟨r,iD,rfl,gB.out,jI.out,RB.out⟩
   ·rw[show decide (r2.2.e≠0)=true by simp[he2]] at e4
    have HR:Hid _:=RA.out he2;clear hfr cx Bw df JN Zp he2
    go_wp2
    go_ret
    rw[HR.out];have rX:=bg (Below.refl _ wr) QB;exact⟨wr.heap.size,iD,rfl,HF.out.trans (du.below rX _ _),HI.out.grow rX,aj wr QB⟩
theorem JP {w0:World} (yb fuel:Nat) (vs:List Nat) (k:Kw) (a:KE) (ta:Nat) (hk1:k≠.aP) (hk2:k≠.di) (qQ:k≠.loop) (jQ:KT vs a ta) (hvl:vs.length<=100) (aF:Lm w0 yb fuel a vs) (Zo:Ob w0 yb fuel k (sS ta)):Ev w0 yb fuel (.n1 k a) vs:=by
 intro b vals ps st nv w hx hin bq hlen hs he hq;obtain⟨c,pa,fD,oN⟩:=Zh hx
 have hne:b≠yb:=by have:=hin.ob.hyb;have:=fD.hb;omega
 have TH:c≠yb:=by have:=hin.ob.hyb;have:=fD.hg;omega
 have rY:ev fuel ((KE.n1 k a).pt []) (cP vals) st=sV fuel k [a.pt []] (cP vals) { st with steps:=st.steps+1 }:=by
  simp only[KE.pt];rw[nI fuel _ k _ _ _ (cP vals) st hk1 hk2 qQ,j4 he hq]
 rw[rY,CI];have hs':=hs.step hq;have hr1:=ld (fuel:=fuel) jQ hvl vals { st with steps:=st.steps+1 } (λ_=>bq)
 have h1:=λcO w2 (bC:dX w0 w2 yb vals ps fuel { st with steps:=st.steps+1 } cO)=>aF pa vals ps { st with steps:=st.steps+1 } cO w2 oN bC (λ_=>bq) hlen hs'
 generalize ev fuel (a.pt []) (cP vals) { st with steps:=st.steps+1 }=r1 at *
 obtain⟨R,hR⟩:∃ R,R=if r1.2.e≠0 then (Vl.n 0,r1.2) else cT k [r1.1] r1.2:=⟨_,rfl⟩
 rw[<- hR]
 have MB:Hid (r1.2.e=0->R=cT k [r1.1] r1.2):=λh=>by rw[hR,if_neg (λg=>g h)]
 have RA:Hid (r1.2.e≠0->R=(Vl.n 0,r1.2)):=λh=>by rw[hR,if_pos h]
 have hm:∀ (cO:Value) (w2:World) (p1:Nat),r1.2.e=0->dX w0 w2 yb vals ps fuel r1.2 cO->dW w2 r1.1 p1 ->
   Calls Tryz.prog 50 #[.pointer (some ⟨yb,0,none⟩),.pointer (some ⟨b,0,none⟩),.pointer (some ⟨p1,0,none⟩),.pointer none] w2 λe w'=>∃ r,e=.returned (.pointer (some ⟨r,0,none⟩))/\du w2 w' yb cO cO/\dX w0 w' yb vals ps fuel (cT k [r1.1] r1.2).2 cO/\dW w' (cT k [r1.1] r1.2).1 r:=by
  intro cO w2 p1 e bC JN;exact Zo b c 0 [pa] vals ps r1.2 cO w2 r1.1 p1 fD bC (hr1.1 e).2 JN
 have df:=fD.on hin.ob.b0;have x0:=df.c0;have QC:=df.hb;have xl2:=df.hg
 have q0:((bs k.bytes).toList==[])=false:=by rw[aM];cases k <;> decide
 have q1:((bs k.bytes).toList==[120])=false:=by rw[aM];cases k <;> decide
 have q2:((bs k.bytes).toList==[108,101,116])=false:=by rw[aM];cases k <;> first | decide | exact absurd rfl hk1
 have q3:((bs k.bytes).toList==[105,102])=false:=by rw[aM];cases k <;> first | decide | exact absurd rfl hk2
 have q4:((bs k.bytes).toList==[108,111,111,112])=false:=by rw[aM];cases k <;> first | decide | exact absurd rfl qQ
 have y1:w.cell? ⟨yb,1,none⟩=some (.int .i64 fuel):=by rw[aa hin.ob.y];rfl
 have y2:w.cell? ⟨yb,2,none⟩=some (.int .i64 st.steps):=by rw[aa hin.ob.y];rfl
 have y4:w.cell? ⟨yb,4,none⟩=some (.bool false):=by rw[aa hin.ob.y];simp[dU,he]
 have f2:w.frozen? ⟨yb,2,none⟩=false:=ag hin.ob.y 2;have nV:=af hin.ob.y
 have q9:((st.steps:Int)==(fuel:Int))=false:=by rw[beq_eq_false_iff_ne];omega
 have AK:=hs.s;have TU:=hs.f;have HK:Hid _:=fD
 have AO:Hid _:=λm=>hin.begin m
 have XR:Hid _:=hin.ob.b0.size;have H1:Hid _:=h1;have HM:Hid _:=hm;clear fD df hx hin bq hs he rY hq oN aF hs' hr1 h1 hm hlen Zo hR jQ
 go_enter Tryz.func29,Tryz.ntmps29
 go_wp2_with fail
 go_quiet (fail)
 go_wp2_with fail
 have Zq:Hid _:=AO.out nq;have HNQ:Hid _:=ui w nq ⟨yb,2,none⟩ (.int .i64 ((st.steps:Int)+1)) Rv;clear AO x0 y1 y2 y4 f2;generalize hQ:w.heap.size=Q at *
 go_loopw [11] (λi wr=>∃ (j:Nat) (iD:Value),i=.int .i64 j/\du w wr yb nv iD/\((j=0/\dX w0 wr yb vals ps fuel { st with steps:=st.steps+1 } iD/\wr.heap[Q]?=some (yR (.pointer none) (.pointer none)))\/(j=1/\∃ p1:Nat,dX w0 wr yb vals ps fuel r1.2 iD/\wr.heap[Q]?=some (yR (.pointer (some ⟨p1,0,none⟩)) (.pointer none))/\dW wr r1.1 p1))) (λi _=>1-(intOf i).toNat)
 case atStart=>exact⟨0,nv,rfl,Zq.out.2,Or.inl ⟨rfl,Zq.out.1,HNQ.out⟩⟩
 case round =>
  obtain⟨j,iD,rfl,hfr,hP⟩:=hrel;have HF:Hid _:=hfr
  rcases hP with ⟨rfl,cx,Bw⟩ | ⟨rfl,p1,cx,Bw,JN⟩
  ·have df:=HK.out.on cx.ob.b0
   have u2:=df.c2;have uk:=df.ck 0 pa rfl;have Zk:=df.hb;have Zl:=df.hg;have HI:Hid _:=cx;have TV:Hid _:=Bw;have HC:Hid _:=H1.out iD wr cx;clear hfr cx Bw df
   go_wp2_with fail
   refine Calls.mono HC.out ?_;rintro _ w2 ⟨r,Hm,rfl,eY,pG,JO⟩;have xo:w2.heap[Q]?=some (yR (.pointer none) (.pointer none)):=HI.out.ob.other eY (by decide) (by decide) TV.out;have ql:=af xo;have qf:w2.frozen? ⟨Q,0,none⟩=false:=ag xo 0
   have qc:w2.cell? ⟨Q,0,none⟩=some (.pointer none):=by rw[aa xo];rfl
   have Od:w0.heap.size<=Q:=by have:=XR.out;omega
   have gB:Hid _:=(HF.out.trans eY).Ih (q:=Q) (o:=0) (x:=.pointer (some ⟨r,0,none⟩)) (by omega);have jI:Hid _:=pG.lf (o:=0) (x:=.pointer (some ⟨r,0,none⟩)) xo Od;have RB:Hid _:=JO.lf (o:=0) (x:=.pointer (some ⟨r,0,none⟩)) xo;have Zr:Hid ((w2.setCell ⟨Q,0,none⟩ (.pointer (some ⟨r,0,none⟩))).heap[Q]?=some (yR (.pointer (some ⟨r,0,none⟩)) (.pointer none))):=(aA xo 0 _).trans rfl;clear eY pG JO xo HC HI TV
   go_wp2
   go_roundw
   case rel=>exact⟨1,Hm,by first | rfl | go_num,gB.out,Or.inr ⟨rfl,r,jI.out,Zr.out,RB.out⟩⟩
   case measure=>simp[intOf]
  ·have df:=HK.out.on cx.ob.b0
   have u2:=df.c2;have Zk:=df.hb;have Zl:=df.hg
   have e4:wr.cell? ⟨yb,4,none⟩=some (.bool (decide (r1.2.e≠0))):=by rw[aa cx.ob.y];rfl
   have VB:=af cx.ob.y
   have qa:wr.cell? ⟨Q,0,none⟩=some (.pointer (some ⟨p1,0,none⟩)):=by rw[aa Bw];rfl
   have qb:wr.cell? ⟨Q,1,none⟩=some (.pointer none):=by rw[aa Bw];rfl
   have ql:=af Bw;have HI:Hid _:=cx
   by_cases he2:r1.2.e=0
   ·rw[show decide (r1.2.e≠0)=false by simp[he2]] at e4
    have HC:Hid _:=HM.out iD wr p1 he2 cx JN;have HR:Hid _:=MB.out he2;clear hfr cx Bw df JN he2
    go_wp2_with fail
    refine Calls.mono HC.out ?_;rintro _ w2 ⟨r,rfl,eY,pG,JO⟩;have gB:Hid _:=HF.out.trans eY;have jI:Hid _:=pG;have RB:Hid _:=JO;clear eY pG JO HC
    go_wp2
    go_ret
    rw[HR.out];exact⟨r,iD,rfl,gB.out,jI.out,RB.out⟩
   ·rw[show decide (r1.2.e≠0)=true by simp[he2]] at e4
    have HR:Hid _:=RA.out he2;clear hfr cx Bw df JN he2
    go_wp2
    go_ret
    rw[HR.out];have rX:=bg (Below.refl _ wr) QB;exact⟨wr.heap.size,iD,rfl,HF.out.trans (du.below rX _ _),HI.out.grow rX,aj wr QB⟩
theorem RC {w0:World} (yb fuel:Nat):∀ {vs:List Nat} {x:KE} {t:Nat},KT vs x t->vs.length<=100->Lm w0 yb fuel x vs:=by
 intro vs x t h
 induction h with
 | num _=>intro _;exact lU (Rw yb fuel _ _)
 | var h=>intro hl;exact lU (Rx yb fuel _ _ (List.getElem?_eq_some_iff.1 h).1 (by omega))
 | aP _ hl h1 _ ha hb=>intro _;exact lU (Rz yb fuel _ _ _ _ h1 hl (ha (by omega)) (hb (by simp;omega)))
 | di h1 _ _ ha hb hc=>intro hl;exact lU (VQ yb fuel _ _ _ _ h1 hl (ha hl) (hb hl) (hc hl))
 | loop hl h1 h2 h3 ha hb hc=>intro _;exact lU (N9 yb fuel _ _ _ _ _ h1 h2 h3 hl (ha (by omega)) (hb (by omega)) (hc (by simp;omega)))
 | pair _ _ h1 h2 ha hb=>intro hl;exact lU (xm yb fuel _ .pair 0 _ _ _ _ (by decide) (by decide) (by decide) h1 h2 hl (ha hl) (hb hl) (Ic yb fuel _ _))
 | fst h0 hp h1 ha=>intro hl;exact lU (JP yb fuel _ .fst _ _ (by decide) (by decide) (by decide) h1 hl (ha hl) (by rw[iv hp h0];exact Ls yb fuel _ _ _))
 | snd h0 hp h1 ha=>intro hl;exact lU (JP yb fuel _ .snd _ _ (by decide) (by decide) (by decide) h1 hl (ha hl) (by rw[iv hp h0];exact Lt yb fuel _ _ _))
 | two hk h1 h2 ha hb =>
  intro hl
  rcases hk with rfl | rfl | rfl
  ·exact lU (xm yb fuel _ .add 0 _ _ _ _ (by decide) (by decide) (by decide) h1 h2 hl (ha hl) (hb hl) (Lu yb fuel))
  ·exact lU (xm yb fuel _ .sub 0 _ _ _ _ (by decide) (by decide) (by decide) h1 h2 hl (ha hl) (hb hl) (Lv yb fuel))
  ·exact lU (xm yb fuel _ .less 0 _ _ _ _ (by decide) (by decide) (by decide) h1 h2 hl (ha hl) (hb hl) (Ig yb fuel))
theorem wm {a:Nat} (h:a≠0):((a:Int)==0)=false:=by rw[beq_eq_false_iff_ne];omega
def Oe (v:MV):List Value:=[.bool v.c,.int .i64 v.n]
def ml (v:MV):Value:=.agg #[.bool v.c,.int .i64 v.n]
def Lw (c:MC):List Value:=[.bool c.a.c,.int .i64 c.a.n,.bool c.b.c,.int .i64 c.b.n,.int .i64 c.home,.int .i64 c.gO]
def Og (c:MC):Value:=.agg #[.bool c.a.c,.int .i64 c.a.n,.bool c.b.c,.int .i64 c.b.n,.int .i64 c.home,.int .i64 c.gO]
def CK (r:MR):List Value:=[.int .i64 r.num,.int .i64 r.gO,.int .i64 r.cells]
def mM (tn aS:Value) (fuel:Nat) (nv cv rv:Value) (m:MM):Array Value:=#[tn,aS,.int .i64 fuel,.int .i64 m.steps,.int .i64 m.fault,nv,cv,rv,.int .i64 m.opened,.int .i64 m.live,.int .i64 m.most]
structure jc (mb:Nat) (w:World) (tn aS:Value) (fuel:Nat) (nv cv rv:Value) (m:MM):Prop where
 y:w.heap[mb]?=some (.cells (mM tn aS fuel nv cv rv m) 120 (0,0))
 nm:w.ownsRow 0 122 2 nv m.named.length (m.named.flatMap Oe)
 cl:w.ownsRow 0 154 6 cv m.cells.length (m.cells.flatMap Lw)
 rg:w.ownsRow 0 151 3 rv m.regs.length (m.regs.flatMap CK)
 ny:nv.ownBlock≠some mb
 cy:cv.ownBlock≠some mb
 ry:rv.ownBlock≠some mb
 nc:apart nv cv
 nr:apart nv rv
 cr:apart cv rv
theorem jc.slt {mb:Nat} {w:World} {tn aS:Value} {fuel:Nat} {nv cv rv:Value} {m:MM} (h:jc mb w tn aS fuel nv cv rv m) :
  (∀ k,nv.ownBlock=some k->k<w.heap.size)/\(∀ k,cv.ownBlock=some k->k<w.heap.size)/\(∀ k,rv.ownBlock=some k->k<w.heap.size)/\mb<w.heap.size :=
 ⟨λk hk=>(h.nm.lt k hk).2,λk hk=>(h.cl.lt k hk).2,λk hk=>(h.rg.lt k hk).2,af h.y⟩
theorem jc.below {mb:Nat} {w w':World} {tn aS:Value} {fuel:Nat} {nv cv rv:Value} {m:MM} (h:jc mb w tn aS fuel nv cv rv m) (hb:Below w.heap.size w w'):jc mb w' tn aS fuel nv cv rv m :=
 ⟨by rw[hb.block mb h.slt.2.2.2];exact h.y,aB h.nm hb,aB h.cl hb,aB h.rg hb,h.ny,h.cy,h.ry,h.nc,h.nr,h.cr⟩
theorem jc.EE {mb:Nat} {w:World} {tn aS:Value} {fuel:Nat} {nv cv rv:Value} {m:MM} (h:jc mb w tn aS fuel nv cv rv m) (m':MM) (i:Nat) (u:Value)
  (h1:m'.named=m.named) (h2:m'.cells=m.cells) (h3:m'.regs=m.regs) (ha:(mM tn aS fuel nv cv rv m).setIfInBounds i u=mM tn aS fuel nv cv rv m') :
  bL mb mb w (w.setCell ⟨mb,i,none⟩ u) nv cv rv nv cv rv/\jc mb (w.setCell ⟨mb,i,none⟩ u) tn aS fuel nv cv rv m':=by
 have kp:∀ k,k≠mb->(w.setCell ⟨mb,i,none⟩ u).heap[k]?=w.heap[k]?:=λk hk=>aq _ _ (by simpa using hk)
 refine⟨⟨rfl,rfl,rfl,by simp only[World.setCell,Array.size_modify];omega,λk _ hp _ _ _ _=>kp k hp,λ_ h=>Or.inl h,λ_ h=>Or.inl h,λ_ h=>Or.inl h⟩,?_⟩;refine⟨by rw[<- ha];exact aA h.y i u,?_,?_,?_,h.ny,h.cy,h.ry,h.nc,h.nr,h.cr⟩
 ·rw[h1];exact ay h.nm (λk hk=>kp k (λe=>h.ny (by rw[hk,e])))
 ·rw[h2];exact ay h.cl (λk hk=>kp k (λe=>h.cy (by rw[hk,e])))
 ·rw[h3];exact ay h.rg (λk hk=>kp k (λe=>h.ry (by rw[hk,e])))
theorem bK {mb:Nat} {w:World} {tn aS:Value} {fuel:Nat} {nv cv rv:Value} {m:MM} (h:w.heap[mb]?=some (.cells (mM tn aS fuel nv cv rv m) 120 (0,0))) :
  w.cell? ⟨mb,2,none⟩=some (.int .i64 fuel)/\w.cell? ⟨mb,3,none⟩=some (.int .i64 m.steps)/\w.cell? ⟨mb,4,none⟩=some (.int .i64 m.fault)/\w.cell? ⟨mb,5,none⟩=some nv/\w.cell? ⟨mb,6,none⟩=some cv/\w.cell? ⟨mb,7,none⟩=some rv /\
  w.cell? ⟨mb,8,none⟩=some (.int .i64 m.opened)/\w.cell? ⟨mb,9,none⟩=some (.int .i64 m.live)/\w.cell? ⟨mb,10,none⟩=some (.int .i64 m.most):=by
 refine⟨?_,?_,?_,?_,?_,?_,?_,?_,?_⟩ <;> (rw[aa h];rfl)
theorem uj (mb:Nat) (w:World) (tn aS:Value) (fuel:Nat) (nv cv rv:Value) (m:MM) (f:Nat) (h:jc mb w tn aS fuel nv cv rv m) :
  Calls Tryz.prog 108 #[ptr mb,.int .i64 f] w λe w'=>e=.returned (.tuple #[])/\bL mb mb w w' nv cv rv nv cv rv/\jc mb w' tn aS fuel nv cv rv (m.stop f):=by
 obtain⟨_,_,y4,_⟩:=bK h.y;have f4:w.frozen? ⟨mb,4,none⟩=false:=ag h.y 4;have oL:=af h.y;unfold ptr
 by_cases hz:m.fault=0
 ·have hs:m.stop f={ m with fault:=f }:=by unfold MM.stop;rw[if_pos hz]
  have hd:=h.EE { m with fault:=f } 4 (.int .i64 f) rfl rfl rfl rfl;rw[hs];rw[hz] at y4;have HD:Hid _:=hd;clear h hd hs hz
  go_enter Tryz.func108,Tryz.ntmps108
  go_wp2
  refine bodyPost_end (v:=.tuple #[]) (by simp[results,Tryz.results108,go_sem]) rfl ⟨rfl,HD.out⟩
 ·have hs:m.stop f=m:=by unfold MM.stop;rw[if_neg hz]
  rw[hs];have q:((m.fault:Int)==0)=false:=wm hz;have HD:Hid _:=h;clear h hs hz
  go_enter Tryz.func108,Tryz.ntmps108
  go_wp2
  refine bodyPost_end (v:=.tuple #[]) (by simp[results,Tryz.results108,go_sem]) rfl ⟨rfl,bL.refl _ _ _ _ _ _,HD.out⟩
end Go.Proofs.YtpicaknklgccoabGreatDoor
