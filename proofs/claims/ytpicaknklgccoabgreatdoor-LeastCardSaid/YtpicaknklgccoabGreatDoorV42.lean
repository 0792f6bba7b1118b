import Derived.Test.YtpicaknklgccoabGreatDoorV41
set_option maxHeartbeats 2000000
namespace Go.Proofs.YtpicaknklgccoabGreatDoor
structure Side (fuel:Nat) (t:PT) (sc:Sc) (base:Nat) (m:MM) (env:ep) (st:cu) (G:aV):Prop where
 r:t.iE
 e:ER m.named m.cells sc env G base
 l:base+t.cnt<=m.named.length
 s:Sw fuel st m
theorem Side.out {fuel:Nat} {t:PT} {sc:Sc} {base:Nat} {m:MM} {env:ep} {st:cu} {G:aV} {T:Ty} (h:Side fuel t sc base m env st G) (hw:WT G t T) (h0:(mW fuel t sc base m).2.fault=0) :
  Sw fuel (ev fuel t.era env st).2 (mW fuel t sc base m).2/\gP (mW fuel t sc base m).2.cells (ev fuel t.era env st).1 (mW fuel t sc base m).1/\(ev fuel t.era env st).1.has T/\Ext m (mW fuel t sc base m).2 base t.cnt:=by
 have hx:=(kq fuel hw sc base m h.r h.e.ef h.l).1
 rcases Iy fuel hw sc base m env st h.r h.e h.l h.s with ⟨h1,h2,h3⟩ | hB | hD
 ·exact⟨h1,h2,h3,hx⟩
 ·rw[hB.2] at h0;cases h0
 ·rw[hD] at h0;cases h0
theorem oR {fuel:Nat} {t:PT} {sc:Sc} {base:Nat} {m:MM} (h:(mW fuel t sc base m).2.fault=0):m.fault=0:=by
 apply Classical.byContradiction
 intro hn;rw[BD fuel t sc base m hn] at h;exact hn h
theorem Kh {m:MM} {i:Int} {v:MV} (h:(m.name i v).fault=0):m.fault=0:=by rw[(iN m i v).1] at h;exact h
theorem rD {i:Int} {g:MM->MV × MM} {k:Nat} {v:MV} {m:MM} (h:(cU i g k v m).2.fault=0):m.fault=0:=by
 apply Classical.byContradiction
 intro hn;rw[gx i g k v m hn] at h;exact hn h
theorem Dl {m:MM} {v:MV} (h:(m.use v).2.fault=0):m.fault=0:=by
 apply Classical.byContradiction
 intro hn;rw[s9 m v hn] at h;exact hn h
theorem FN {fuel:Nat} {m:MM} {g:MM->MV × MM} (h:m.fault=0) (hf:(bn fuel m g).2.fault=0):m.steps<fuel/\bn fuel m g=g { m with steps:=m.steps+1 }:=by
 unfold bn at hf ⊢
 by_cases hq:fuel<=m.steps
 ·exfalso
  have e:m.stop 12={ m with fault:=12 }:=by unfold MM.stop;rw[if_pos h]
  simp only[if_pos hq,e] at hf;rw[if_pos (by decide)] at hf
  cases hf
 ·simp only[if_neg hq]
  rw[if_neg (λhn=>hn h)];exact⟨by omega,rfl⟩
theorem Sw.step {fuel:Nat} {st:cu} {m:MM} (h:Sw fuel st m) (hl:m.steps<fuel):Sw fuel { st with steps:=st.steps+1 } { m with steps:=m.steps+1 } :=
 ⟨h.e,h.f,by simp only;rw[h.s],by have:=h.s;simp only;omega,h.c,h.r⟩
theorem jA {f:Int->Int} {NP NQ rp rq:List Int} {fuel:Nat} {st:cu} {m m':MM} {g g':MM->MV × MM} (hs:Sw fuel st m) (hs':Sw fuel st m') (hj:Jt f NP NQ rp rq m m') (h0:(bn fuel m g).2.fault=0) (h0':(bn fuel m' g').2.fault=0)
  (hk:Sw fuel { st with steps:=st.steps+1 } { m with steps:=m.steps+1 }->Sw fuel { st with steps:=st.steps+1 } { m' with steps:=m'.steps+1 }->Jt f NP NQ rp rq { m with steps:=m.steps+1 } { m' with steps:=m'.steps+1 }->(g { m with steps:=m.steps+1 }).2.fault=0->(g' { m' with steps:=m'.steps+1 }).2.fault=0->Jt f NP NQ rp rq (g { m with steps:=m.steps+1 }).2 (g' { m' with steps:=m'.steps+1 }).2) :
  Jt f NP NQ rp rq (bn fuel m g).2 (bn fuel m' g').2:=by
 obtain⟨q,e⟩:=FN hs.f h0;obtain⟨q',e'⟩:=FN hs'.f h0';rw[e] at h0 ⊢;rw[e'] at h0' ⊢;exact hk (hs.step q) (hs'.step q') (hj.of rfl rfl rfl rfl rfl rfl) h0 h0'
theorem FO {f:Int->Int} {NP NQ rp rq:List Int} {fuel:Nat} {T:Ty} {j j':Int} {g g':MM->MV × MM} {Pm Pm':MM->Prop}
  (qz:∀ st m m' X v v',Pm m->Pm' m'->Sw fuel st m->Sw fuel st m'->gP m.cells X v->gP m'.cells X v'->X.has T->Jt f NP NQ rp rq m m'->(g (m.name j v)).2.fault=0->(g' (m'.name j' v')).2.fault=0 ->
   ∃ Uy X1,Sw fuel Uy (g (m.name j v)).2/\Sw fuel Uy (g' (m'.name j' v')).2/\gP (g (m.name j v)).2.cells X1 (g (m.name j v)).1/\gP (g' (m'.name j' v')).2.cells X1 (g' (m'.name j' v')).1/\X1.has T/\Jt f NP NQ rp rq (g (m.name j v)).2 (g' (m'.name j' v')).2/\Pm (g (m.name j v)).2/\Pm' (g' (m'.name j' v')).2) :
  ∀ (k:Nat) (st:cu) (m m':MM) (X:Vl) (v v':MV),Pm m->Pm' m'->Sw fuel st m->Sw fuel st m'->gP m.cells X v->gP m'.cells X v'->X.has T->Jt f NP NQ rp rq m m'->(cU j g k v m).2.fault=0->(cU j' g' k v' m').2.fault=0->Jt f NP NQ rp rq (cU j g k v m).2 (cU j' g' k v' m').2
 | 0,_,_,_,_,_,_,_,_,_,_,_,_,_,hj,_,_=>hj
 | k+1,st,m,m',X,v,v',hP,hP',hs,hs',hr,hr',ht,hj,h0,h0'=>by
  simp only[cU] at h0 h0' ⊢;rw[if_neg (λhn=>hn hs.f)] at h0 ⊢;rw[if_neg (λhn=>hn hs'.f)] at h0' ⊢;obtain⟨Uy,X1,a1,a2,a3,a4,a5,a6,a7,a8⟩:=qz st m m' X v v' hP hP' hs hs' hr hr' ht hj (rD h0) (rD h0');exact FO qz k Uy _ _ X1 _ _ a7 a8 a1 a2 a3 a4 a5 a6 h0 h0'
theorem Cm.run {f:Int->Int} {NP NQ rp rq:List Int} {t t':PT} (fuel:Nat) (h:Cm f NP NQ rp rq t t'):∀ {G:aV} {T:Ty},WT G t T->∀ (sc r9:Sc) (base base':Nat) (m m':MM) (env:ep) (st:cu),Side fuel t sc base m env st G->Side fuel t' r9 base' m' env st G->Jt f NP NQ rp rq m m'->(mW fuel t sc base m).2.fault=0->(mW fuel t' r9 base' m').2.fault=0->Jt f NP NQ rp rq (mW fuel t sc base m).2 (mW fuel t' r9 base' m').2:=by
 induction h with
 | num h =>
  intro G T hw sc r9 base base' m m' env st hd hd' hj h0 h0';simp only[mW] at h0 h0' ⊢;exact jA hd.s hd'.s hj h0 h0' (λ_ _ hj _ _=>hj)
 | name =>
  intro G T hw sc r9 base base' m m' env st hd hd' hj h0 h0';simp only[mW] at h0 h0' ⊢;exact jA hd.s hd'.s hj h0 h0' (λ_ _ hj _ _=>hj)
 | @aP rp rq p q nm rg gU a b a' b' ha hb aF bu =>
  intro G T hw sc r9 base base' m m' env st hd hd' hj h0 h0';obtain⟨hr,he,hl,hs⟩:=hd;obtain⟨hr',he',hl',hs'⟩:=hd'
  obtain⟨A,wa,wb⟩:∃ A,WT G a A/\WT (G++[(nm,A)]) b T:=by
   cases hw with
   | aP wa wb=>exact⟨_,wa,wb⟩
   | two hk=>simp at hk
  simp only[PT.iE,cJ] at hr hr';simp only[PT.cnt,ax,Nat.add_zero] at hl hl';simp only[mW,ud,if_true,reduceCtorEq,if_false] at h0 h0' ⊢;refine jA hs hs' hj h0 h0' (λhs hs' hj h0 h0'=>?_);have d1:Side fuel a sc base { m with steps:=m.steps+1 } env { st with steps:=st.steps+1 } G:=⟨hr.2.1,he,by simp only;omega,hs⟩;have DA:Side fuel a' r9 base' { m' with steps:=m'.steps+1 } env { st with steps:=st.steps+1 } G:=⟨hr'.2.1,he',by simp only;omega,hs'⟩;have f1:=Kh (oR h0);have Ki:=Kh (oR h0');obtain⟨s1,r1,t1,x1⟩:=d1.out wa f1;obtain⟨wR,Av,_,Dm⟩:=DA.out (ha.wt wa) Ki;rw[ha.Xg fuel] at wR Av;have j1:=aF wa _ _ _ _ _ _ _ _ d1 DA hj f1 Ki;generalize mW fuel a sc base { m with steps:=m.steps+1 }=x at h0 s1 r1 x1 j1 ⊢;generalize mW fuel a' r9 base' { m' with steps:=m'.steps+1 }=x' at h0' wR Av Dm j1 ⊢;generalize ev fuel a.era env { st with steps:=st.steps+1 }=y at s1 r1 t1 wR Av;have XO:=cV a;have ac9:=cV a';have hxl:x.2.named.length=m.named.length:=x1.len;have Fe:x'.2.named.length=m'.named.length:=Dm.len;rw[show (((base+a.cnt:Nat):Int)-1)=((base+a.cnt-1:Nat):Int) from by omega] at h0 ⊢;rw[show (((base'+a'.cnt:Nat):Int)-1)=((base'+a'.cnt-1:Nat):Int) from by omega] at h0' ⊢;have iV:=(ER.on (m:={ m with steps:=m.steps+1 }) he x1 (Nat.le_refl _)).snoc (nm:=nm) (j:=base+a.cnt-1) (by omega) (by omega) r1 t1;have PV:=(ER.on (m:={ m' with steps:=m'.steps+1 }) he' Dm (Nat.le_refl _)).snoc (nm:=nm) (j:=base'+a'.cnt-1) (by omega) (by omega) Av t1;rw[show base+a.cnt-1+1=base+a.cnt from by omega] at iV;rw[show base'+a'.cnt-1+1=base'+a'.cnt from by omega] at PV;have hne:=dQ x.2 (base+a.cnt-1) x.1 base a.cnt (by omega);have IW:=dQ x'.2 (base'+a'.cnt-1) x'.1 base' a'.cnt (by omega);exact bu wb _ _ _ _ _ _ _ _ ⟨hr.2.2.1,iV,by rw[hne.len,hxl];omega,s1.name _ _⟩ ⟨hr'.2.2.1,PV,by rw[IW.len,Fe];omega,wR.name _ _⟩ (j1.name _ _ _ _) h0 h0'
 | @pair rp rq p q nm nk rg gU a b a' b' JT wS hee ha hb aF bu =>
  intro G T hw sc r9 base base' m m' env st hd hd' hj h0 h0';obtain⟨hr,he,hl,hs⟩:=hd;obtain⟨hr',he',hl',hs'⟩:=hd'
  obtain⟨A,B,wa,wb⟩:∃ A B,WT G a A/\WT G b B:=by
   cases hw with
   | pair wa wb hsz=>exact⟨_,_,wa,wb⟩
   | two hk=>simp at hk
  simp only[PT.iE,cJ] at hr hr';simp only[PT.cnt,ax,Nat.add_zero] at hl hl';simp only[mW,gu,if_true,reduceCtorEq,if_false] at h0 h0' ⊢;refine jA hs hs' hj h0 h0' (λhs hs' hj h0 h0'=>?_);rw[fU] at h0 h0';have d1:Side fuel a sc base { m with steps:=m.steps+1 } env { st with steps:=st.steps+1 } G:=⟨hr.2.1,he,by simp only;omega,hs⟩;have DA:Side fuel a' r9 base' { m' with steps:=m'.steps+1 } env { st with steps:=st.steps+1 } G:=⟨hr'.2.1,he',by simp only;omega,hs'⟩;have f1:=oR h0;have Ki:=oR h0';obtain⟨s1,r1,t1,x1⟩:=d1.out wa f1;obtain⟨wR,Av,_,Dm⟩:=DA.out (ha.wt wa) Ki;rw[ha.Xg fuel] at wR Av;have j1:=aF wa _ _ _ _ _ _ _ _ d1 DA hj f1 Ki;generalize mW fuel a sc base { m with steps:=m.steps+1 }=x at h0 s1 r1 x1 j1 ⊢;generalize mW fuel a' r9 base' { m' with steps:=m'.steps+1 }=x' at h0' wR Av Dm j1 ⊢;generalize ev fuel a.era env { st with steps:=st.steps+1 }=y at s1 r1 t1 wR Av;have hxl:x.2.named.length=m.named.length:=x1.len;have Fe:x'.2.named.length=m'.named.length:=Dm.len;have hx:=(ER.on (m:={ m with steps:=m.steps+1 }) he x1 (Nat.le_refl _)).up (show base<=base+a.cnt by omega);have hx':=(ER.on (m:={ m' with steps:=m'.steps+1 }) he' Dm (Nat.le_refl _)).up (show base'<=base'+a'.cnt by omega);exact (bu wb _ _ _ _ _ _ _ _ ⟨hr.2.2.1,hx,by omega,s1⟩ ⟨hr'.2.2.1,hx',by omega,wR⟩ j1 h0 h0').cell JT wS hee _ _ _ _
 | @fst rp rq p q nm nk rg gU a a' ha aF =>
  intro G T hw sc r9 base base' m m' env st hd hd' hj h0 h0';obtain⟨hr,he,hl,hs⟩:=hd;obtain⟨hr',he',hl',hs'⟩:=hd'
  obtain⟨A,wa⟩:∃ A,WT G a A:=by cases hw with | fst wa=>exact⟨_,wa⟩
  simp only[PT.iE,cJ] at hr hr';simp only[PT.cnt,ax,Nat.add_zero] at hl hl';simp only[mW,gu,if_true,reduceCtorEq,if_false] at h0 h0' ⊢;refine jA hs hs' hj h0 h0' (λhs hs' hj h0 h0'=>?_);have d1:Side fuel a sc base { m with steps:=m.steps+1 } env { st with steps:=st.steps+1 } G:=⟨hr.2.1,he,by simp only;omega,hs⟩;have DA:Side fuel a' r9 base' { m' with steps:=m'.steps+1 } env { st with steps:=st.steps+1 } G:=⟨hr'.2.1,he',by simp only;omega,hs'⟩;exact (aF wa _ _ _ _ _ _ _ _ d1 DA hj (Dl h0) (Dl h0')).use _ _
 | @snd rp rq p q nm nk rg gU a a' ha aF =>
  intro G T hw sc r9 base base' m m' env st hd hd' hj h0 h0';obtain⟨hr,he,hl,hs⟩:=hd;obtain⟨hr',he',hl',hs'⟩:=hd'
  obtain⟨A,wa⟩:∃ A,WT G a A:=by cases hw with | snd wa=>exact⟨_,wa⟩
  simp only[PT.iE,cJ] at hr hr';simp only[PT.cnt,ax,Nat.add_zero] at hl hl';simp only[mW,gu,reduceCtorEq,if_false] at h0 h0' ⊢;refine jA hs hs' hj h0 h0' (λhs hs' hj h0 h0'=>?_);have d1:Side fuel a sc base { m with steps:=m.steps+1 } env { st with steps:=st.steps+1 } G:=⟨hr.2.1,he,by simp only;omega,hs⟩;have DA:Side fuel a' r9 base' { m' with steps:=m'.steps+1 } env { st with steps:=st.steps+1 } G:=⟨hr'.2.1,he',by simp only;omega,hs'⟩;exact (aF wa _ _ _ _ _ _ _ _ d1 DA hj (Dl h0) (Dl h0')).use _ _
 | @di rp rq p q nm nk rg gU a b c a' b' c' ha hb hc aF bu fe =>
  intro G T hw sc r9 base base' m m' env st hd hd' hj h0 h0';obtain⟨hr,he,hl,hs⟩:=hd;obtain⟨hr',he',hl',hs'⟩:=hd'
  obtain⟨wa,wb,wc⟩:WT G a .n/\WT G b T/\WT G c T:=by cases hw with | di wa wb wc=>exact⟨wa,wb,wc⟩
  simp only[PT.iE,cJ] at hr hr';simp only[PT.cnt,ax,Nat.add_zero] at hl hl';simp only[mW,Hs,if_true,reduceCtorEq,if_false] at h0 h0' ⊢;refine jA hs hs' hj h0 h0' (λhs hs' hj h0 h0'=>?_);have d1:Side fuel a sc base { m with steps:=m.steps+1 } env { st with steps:=st.steps+1 } G:=⟨hr.2.1,he,by simp only;omega,hs⟩;have DA:Side fuel a' r9 base' { m' with steps:=m'.steps+1 } env { st with steps:=st.steps+1 } G:=⟨hr'.2.1,he',by simp only;omega,hs'⟩
  have f1:(mW fuel a sc base { m with steps:=m.steps+1 }).2.fault=0:=by
   split at h0
   ·exact oR h0
   ·exact oR h0
  have Ki:(mW fuel a' r9 base' { m' with steps:=m'.steps+1 }).2.fault=0:=by
   split at h0'
   ·exact oR h0'
   ·exact oR h0'
  obtain⟨s1,r1,t1,x1⟩:=d1.out wa f1;obtain⟨wR,Av,_,Dm⟩:=DA.out (ha.wt wa) Ki;rw[ha.Xg fuel] at wR Av;have j1:=aF wa _ _ _ _ _ _ _ _ d1 DA hj f1 Ki;generalize mW fuel a sc base { m with steps:=m.steps+1 }=x at h0 s1 r1 x1 j1 ⊢;generalize mW fuel a' r9 base' { m' with steps:=m'.steps+1 }=x' at h0' wR Av Dm j1 ⊢;generalize ev fuel a.era env { st with steps:=st.steps+1 }=y at s1 r1 t1 wR Av;have hxl:x.2.named.length=m.named.length:=x1.len;have Fe:x'.2.named.length=m'.named.length:=Dm.len;have hx:=ER.on (m:={ m with steps:=m.steps+1 }) he x1 (Nat.le_refl _);have hx':=ER.on (m:={ m' with steps:=m'.steps+1 }) he' Dm (Nat.le_refl _)
  have hnn:x.1.n=x'.1.n:=by
   obtain⟨y1,y2⟩:=y
   cases y1 with
   | p u v=>simp[Vl.has] at t1
   | n k=>simp only[gP] at r1 Av;omega
  by_cases hz:x.1.n≠0
  ·rw[if_pos hz] at h0 ⊢
   rw[if_pos (by rw[<- hnn];exact hz)] at h0' ⊢;exact bu wb _ _ _ _ _ _ _ _ ⟨hr.2.2.1,hx.up (by omega),by omega,s1⟩ ⟨hr'.2.2.1,hx'.up (by omega),by omega,wR⟩ j1 h0 h0'
  ·rw[if_neg hz] at h0 ⊢
   rw[if_neg (by rw[<- hnn];exact hz)] at h0' ⊢;exact fe wc _ _ _ _ _ _ _ _ ⟨hr.2.2.2.1,hx.up (by omega),by omega,s1⟩ ⟨hr'.2.2.2.1,hx'.up (by omega),by omega,wR⟩ j1 h0 h0'
 | @two rp rq p q k nm nk rg gU a b a' b' hk ha hb aF bu =>
  intro G T hw sc r9 base base' m m' env st hd hd' hj h0 h0';obtain⟨hr,he,hl,hs⟩:=hd;obtain⟨hr',he',hl',hs'⟩:=hd'
  obtain⟨wa,wb⟩:WT G a .n/\WT G b .n:=by
   cases hw with
   | two _ wa wb=>exact⟨wa,wb⟩
   | aP _ _=>simp at hk
   | pair _ _ _=>simp at hk
  simp only[PT.iE,cJ] at hr hr';simp only[PT.cnt,ax,Nat.add_zero] at hl hl'
  have e:∀ (p:Nat) (nm rg:List UInt8) (a b:PT) (sc:Sc) (base:Nat) (m:MM),mW fuel (.node p k nm rg [a,b]) sc base m=bn fuel m (λm=>(⟨false,iM k (mW fuel a sc base m).1.n (mW fuel b sc (base+a.cnt) (mW fuel a sc base m).2).1.n⟩,(mW fuel b sc (base+a.cnt) (mW fuel a sc base m).2).2)):=by
   intro p nm rg a b sc base m
   rcases hk with rfl | rfl | rfl <;> simp only[mW,gu,reduceCtorEq,if_false]
  rw[e] at h0 ⊢;rw[e] at h0' ⊢;refine jA hs hs' hj h0 h0' (λhs hs' hj h0 h0'=>?_);simp only at h0 h0' ⊢;have d1:Side fuel a sc base { m with steps:=m.steps+1 } env { st with steps:=st.steps+1 } G:=⟨hr.2.1,he,by simp only;omega,hs⟩;have DA:Side fuel a' r9 base' { m' with steps:=m'.steps+1 } env { st with steps:=st.steps+1 } G:=⟨hr'.2.1,he',by simp only;omega,hs'⟩;have f1:=oR h0;have Ki:=oR h0';obtain⟨s1,r1,t1,x1⟩:=d1.out wa f1;obtain⟨wR,Av,_,Dm⟩:=DA.out (ha.wt wa) Ki;rw[ha.Xg fuel] at wR Av;have j1:=aF wa _ _ _ _ _ _ _ _ d1 DA hj f1 Ki;generalize mW fuel a sc base { m with steps:=m.steps+1 }=x at h0 s1 r1 x1 j1 ⊢;generalize mW fuel a' r9 base' { m' with steps:=m'.steps+1 }=x' at h0' wR Av Dm j1 ⊢;generalize ev fuel a.era env { st with steps:=st.steps+1 }=y at s1 r1 t1 wR Av;have hxl:x.2.named.length=m.named.length:=x1.len;have Fe:x'.2.named.length=m'.named.length:=Dm.len;have hx:=(ER.on (m:={ m with steps:=m.steps+1 }) he x1 (Nat.le_refl _)).up (show base<=base+a.cnt by omega);have hx':=(ER.on (m:={ m' with steps:=m'.steps+1 }) he' Dm (Nat.le_refl _)).up (show base'<=base'+a'.cnt by omega);exact bu wb _ _ _ _ _ _ _ _ ⟨hr.2.2.1,hx,by omega,s1⟩ ⟨hr'.2.2.1,hx',by omega,wR⟩ j1 h0 h0'
 | @loop rp rq p q nm rg gU a b c a' b' c' ha hb hc aF bu fe =>
  intro G T hw sc r9 base base' m m' env st hd hd' hj h0 h0';obtain⟨hr,he,hl,hs⟩:=hd;obtain⟨hr',he',hl',hs'⟩:=hd'
  obtain⟨wa,wb,wc⟩:WT G a .n/\WT G b T/\WT (G++[(nm,T)]) c T:=by cases hw with | loop wa wb wc=>exact⟨wa,wb,wc⟩
  simp only[PT.iE,cJ] at hr hr';simp only[PT.cnt,ax,Nat.add_zero] at hl hl';simp only[mW,lT,if_true,reduceCtorEq,if_false] at h0 h0' ⊢;refine jA hs hs' hj h0 h0' (λhs hs' hj h0 h0'=>?_);have d1:Side fuel a sc base { m with steps:=m.steps+1 } env { st with steps:=st.steps+1 } G:=⟨hr.2.1,he,by simp only;omega,hs⟩;have DA:Side fuel a' r9 base' { m' with steps:=m'.steps+1 } env { st with steps:=st.steps+1 } G:=⟨hr'.2.1,he',by simp only;omega,hs'⟩;have f2:=rD h0;have f2':=rD h0';have f1:=oR f2;have Ki:=oR f2';obtain⟨s1,r1,t1,x1⟩:=d1.out wa f1;obtain⟨wR,Av,_,Dm⟩:=DA.out (ha.wt wa) Ki;rw[ha.Xg fuel] at wR Av;have j1:=aF wa _ _ _ _ _ _ _ _ d1 DA hj f1 Ki;generalize mW fuel a sc base { m with steps:=m.steps+1 }=x at h0 s1 r1 x1 j1 f2 ⊢;generalize mW fuel a' r9 base' { m' with steps:=m'.steps+1 }=x' at h0' wR Av Dm j1 f2' ⊢;generalize ev fuel a.era env { st with steps:=st.steps+1 }=y at s1 r1 t1 wR Av;have hxl:x.2.named.length=m.named.length:=x1.len;have Fe:x'.2.named.length=m'.named.length:=Dm.len;have hx:=ER.on (m:={ m with steps:=m.steps+1 }) he x1 (Nat.le_refl _);have hx':=ER.on (m:={ m' with steps:=m'.steps+1 }) he' Dm (Nat.le_refl _)
  have hnn:x'.1.n=x.1.n:=by
   obtain⟨y1,y2⟩:=y
   cases y1 with
   | p u v=>simp[Vl.has] at t1
   | n k=>simp only[gP] at r1 Av;omega
  rw[hnn] at h0' ⊢;have d2:Side fuel b sc (base+a.cnt) x.2 env y.2 G:=⟨hr.2.2.1,hx.up (by omega),by omega,s1⟩;have d2':Side fuel b' r9 (base'+a'.cnt) x'.2 env y.2 G:=⟨hr'.2.2.1,hx'.up (by omega),by omega,wR⟩;obtain⟨s2,r2,t2,x2⟩:=d2.out wb f2;obtain⟨s2',r2',_,x2'⟩:=d2'.out (hb.wt wb) f2';rw[hb.Xg fuel] at s2' r2';have j2:=bu wb _ _ _ _ _ _ _ _ d2 d2' j1 f2 f2';generalize mW fuel b sc (base+a.cnt) x.2=z at h0 s2 r2 x2 j2 ⊢;generalize mW fuel b' r9 (base'+a'.cnt) x'.2=z' at h0' s2' r2' x2' j2 ⊢;generalize ev fuel b.era env y.2=u at s2 r2 t2 s2' r2';have hzl:z.2.named.length=m.named.length:=x2.len.trans hxl;have acb:z'.2.named.length=m'.named.length:=x2'.len.trans Fe;have Al:=cV b;have wE:=cV b';rw[show (((base+a.cnt+b.cnt:Nat):Int)-1)=((base+a.cnt+b.cnt-1:Nat):Int) from by omega] at h0 ⊢;rw[show (((base'+a'.cnt+b'.cnt:Nat):Int)-1)=((base'+a'.cnt+b'.cnt-1:Nat):Int) from by omega] at h0' ⊢;refine FO (Pm:=λn=>ER n.named n.cells sc env G base/\n.named.length=m.named.length) (Pm':=λn=>ER n.named n.cells r9 env G base'/\n.named.length=m'.named.length) (λst n n' X v v' hP hP' hs hs' hr1 Pw ht hj g0 g0'=>?_) _ u.2 z.2 z'.2 u.1 z.1 z'.1 ⟨hx.on x2 (by omega),hzl⟩ ⟨hx'.on x2' (by omega),acb⟩ s2 s2' r2 r2' t2 j2 h0 h0';have iV:=ER.snoc (nm:=nm) (j:=base+a.cnt+b.cnt-1) (ER.up hP.1 (show base<=base+a.cnt+b.cnt-1 by omega)) (Nat.le_refl _) (by omega) hr1 ht;have PV:=ER.snoc (nm:=nm) (j:=base'+a'.cnt+b'.cnt-1) (ER.up hP'.1 (show base'<=base'+a'.cnt+b'.cnt-1 by omega)) (Nat.le_refl _) (by omega) Pw ht;rw[show base+a.cnt+b.cnt-1+1=base+a.cnt+b.cnt from by omega] at iV;rw[show base'+a'.cnt+b'.cnt-1+1=base'+a'.cnt+b'.cnt from by omega] at PV;have hne:=dQ n (base+a.cnt+b.cnt-1) v (base+a.cnt+b.cnt-1) 1 (by omega);have IW:=dQ n' (base'+a'.cnt+b'.cnt-1) v' (base'+a'.cnt+b'.cnt-1) 1 (by omega);have d3:Side fuel c (sc++[(nm,((base+a.cnt+b.cnt-1:Nat):Int))]) (base+a.cnt+b.cnt) (n.name ((base+a.cnt+b.cnt-1:Nat):Int) v) (env++[(nm,X)]) st (G++[(nm,T)]):=⟨hr.2.2.2.1,iV,by rw[hne.len];omega,hs.name _ _⟩
  have d3':Side fuel c' (r9++[(nm,((base'+a'.cnt+b'.cnt-1:Nat):Int))]) (base'+a'.cnt+b'.cnt) (n'.name ((base'+a'.cnt+b'.cnt-1:Nat):Int) v') (env++[(nm,X)]) st (G++[(nm,T)]):=⟨hr'.2.2.2.1,PV,by rw[IW.len];omega,hs'.name _ _⟩;obtain⟨s3,r3,t3,x3⟩:=d3.out wc g0;obtain⟨s3',r3',_,x3'⟩:=d3'.out (hc.wt wc) g0';rw[hc.Xg fuel] at s3' r3';exact⟨_,_,s3,s3',r3,r3',t3,fe wc _ _ _ _ _ _ _ _ d3 d3' (hj.name _ _ _ _) g0 g0',⟨ER.on (hP.1.on hne (by omega)) x3 (by omega),x3.len.trans (hne.len.trans hP.2)⟩,⟨ER.on (hP'.1.on IW (by omega)) x3' (by omega),x3'.len.trans (IW.len.trans hP'.2)⟩⟩
 | @SL rp rq p nm rg a t' hk hn ha aF =>
  intro G T hw sc r9 base base' m m' env st hd hd' hj h0 h0';obtain⟨hr,he,hl,hs⟩:=hd
  have wa:WT G a T:=by cases hw with | new wa=>exact wa
  simp only[PT.iE,cJ] at hr;simp only[PT.cnt,ax,Nat.add_zero] at hl;simp only[mW,rL,if_true] at h0 ⊢;rw[(lE _).1] at h0;have d1:Side fuel a sc base (m.opn (ak rg)) env st G:=⟨hr.2.1,he,by simp only[MM.opn];omega,⟨hs.e,hs.f,hs.s,hs.le,hs.c,by simp[MM.opn]⟩⟩;exact (aF wa _ _ _ _ _ _ _ _ d1 hd' (hj.ab7 hk hn) h0 h0').ab9
 | @SN rp rq q nm rg t a' hk hn hx ha aF =>
  intro G T hw sc r9 base base' m m' env st hd hd' hj h0 h0';obtain⟨hr,he,hl,hs⟩:=hd';simp only[PT.iE,cJ] at hr;simp only[PT.cnt,ax,Nat.add_zero] at hl;simp only[mW,rL,if_true] at h0' ⊢;rw[(lE _).1] at h0';have d1:Side fuel a' r9 base' (m'.opn (ak rg)) env st G:=⟨hr.2.1,he,by simp only[MM.opn];omega,⟨hs.e,hs.f,hs.s,hs.le,hs.c,by simp[MM.opn]⟩⟩;exact (aF hw _ _ _ _ _ _ _ _ hd d1 (hj.ab8 hk hn) h0 h0').aca hx
theorem Cm.counts {f:Int->Int} {NP NQ:List Int} {t t':PT} {T:Ty} (fuel:Nat) (h:Cm f NP NQ [] [] t t') (hw:WT [] t T) (hr:t.iE) (hr':t'.iE) (h0:(mW fuel t [] 0 ((m0 t.cnt).opn (-1))).2.fault=0) (h0':(mW fuel t' [] 0 ((m0 t'.cnt).opn (-1))).2.fault=0) :
  (mW fuel t [] 0 ((m0 t.cnt).opn (-1))).2.most<=(mW fuel t' [] 0 ((m0 t'.cnt).opn (-1))).2.most/\(mW fuel t [] 0 ((m0 t.cnt).opn (-1))).2.live<=(mW fuel t' [] 0 ((m0 t'.cnt).opn (-1))).2.live:=by
 have hd:∀ (t:PT),t.iE->Side fuel t [] 0 ((m0 t.cnt).opn (-1)) [] ⟨0,0,0⟩ []:=λt hr=>⟨hr,λs T h=>by simp[look] at h,by simp[m0,MM.opn],⟨rfl,rfl,rfl,Nat.zero_le _,rfl,by simp[m0,MM.opn]⟩⟩
 have hj:∀ k,Jm ((m0 k).opn (-1)) [] []:=λk=>⟨rfl,rfl,List.nodup_nil,rfl,λi g hi hg=>by
  simp only[m0,MM.opn,List.nil_append] at hg;have:=(List.getElem?_eq_some_iff.1 hg).1;simp only[List.length_singleton] at this
  omega⟩
 have:=h.run fuel hw [] [] 0 0 _ _ [] ⟨0,0,0⟩ (hd t hr) (hd t' hr') ⟨⟨[],[],List.Sublist.refl _,hj _,hj _,by simp,by simp⟩,Int.le_refl _⟩ h0 h0';exact⟨this.most,this.le⟩
theorem uH (g:Nat->Nat) (k:Int):∀ t:Ty,(cC g t).has k=true↔∃ x∈t.u7,((g x:Nat):Int)=k
 | .n=>by simp[cC,Ty.has,Ty.u7]
 | .p r a b=>by
  simp only[cC];rw[Dj,uH g k a,uH g k b];simp only[Ty.u7,List.mem_cons,List.mem_append]
  constructor
  ·rintro (h | ⟨x,h1,h2⟩ | ⟨x,h1,h2⟩)
   ·exact⟨r,Or.inl rfl,h⟩
   ·exact⟨x,Or.inr (Or.inl h1),h2⟩
   ·exact⟨x,Or.inr (Or.inr h1),h2⟩
  ·rintro⟨x,h1 | h1 | h1,h2⟩
   ·subst h1;exact Or.inl h2
   ·exact Or.inr (Or.inl ⟨x,h1,h2⟩)
   ·exact Or.inr (Or.inr ⟨x,h1,h2⟩)
theorem FP {P:Nat->Prop}:∀ (ns:List NR) (T:List Ty),(∀ t∈T,rP P t)->(∀ n∈ns,n.form=4->P n.region.toNat)->∀ t∈aU T ns,rP P t
 | [],_,h,_=>h
 | n::r,T,h,hn=>by
  simp only[aU];refine FP r _ (λt ht=>?_) (λm hm=>hn m (by simp[hm]))
  rcases List.mem_append.1 ht with ht | ht
  ·exact h t ht
  ·simp only[List.mem_singleton] at ht
   subst ht;exact Fq h n (hn n (by simp))
theorem PX {row:List Nat} {x j:Nat} (h:gW row x=(j:Int)):row[j]?=some x:=by
 unfold gW at h
 split at h
 ·rename_i i hi
  obtain⟨h1,h2,_⟩:=List.findIdx?_eq_some_iff_getElem.1 hi
  have:i=j:=by omega
  subst this;rw[List.getElem?_eq_getElem h1]
  simpa using h2
 ·omega
theorem map_inj {α β:Type} {g:α->β} {l:List α} (h:(l.map g).Nodup):∀ a∈l,∀ b∈l,g a=g b->a=b:=by
 induction l with
 | nil=>intro a ha;simp at ha
 | cons x r ih =>
  rw[List.map_cons,List.nodup_cons] at h;intro a ha b hb e
  rcases List.mem_cons.1 ha with ha | ha
  ·rcases List.mem_cons.1 hb with hb | hb
   ·rw[ha,hb]
   ·exact absurd (List.mem_map.2 ⟨b,hb,by rw[<- e,ha]⟩) h.1
  ·rcases List.mem_cons.1 hb with hb | hb
   ·exact absurd (List.mem_map.2 ⟨a,ha,by rw[e,hb]⟩) h.1
   ·exact ih h.2 a ha b hb e
theorem vP (T:List Ty) (rg A B:Nat):∀ (l:List NR) (k a b:Nat),(∀ (i:Nat) n,l[i]?=some n->(ai T ((k+i:Nat):Int)).has rg=true->A<=n.at_/\n.aL<=B)->A<=a->b<=B->A<=(dA T rg l k a b).1/\(dA T rg l k a b).2<=B
 | [],k,a,b,_,h1,h2=>⟨h1,h2⟩
 | n::r,k,a,b,h,h1,h2=>by
  have ht:∀ (i:Nat) m,r[i]?=some m->(ai T ((k+1+i:Nat):Int)).has rg=true->A<=m.at_/\m.aL<=B:=λi m hm hh=>h (i+1) m (by simpa using hm) (by rw[show k+(i+1)=k+1+i by omega];exact hh)
  simp only[dA]
  split
  ·rename_i hh
   have:=h 0 n rfl (by simpa using hh);exact vP T rg A B r (k+1) _ _ ht (by split <;> omega) (by split <;> omega)
  ·exact vP T rg A B r (k+1) a b ht h1 h2
theorem uI (T:List Ty) (rg a b:Nat):∀ (l:List NR) (k g:Nat) (n:NR),l[g]?=some n->n.at_<=a->b<=n.aL->(ai T ((k+g:Nat):Int)).has rg=false->∃ (h:Nat) (m:NR),h<=g/\l[h]?=some m/\ew T rg a b l k=((k+h:Nat):Int)/\m.at_<=a/\b<=m.aL
 | [],_,_,_,h,_,_,_=>by simp at h
 | x::r,k,g,n,hg,h1,h2,h3=>by
  simp only[ew]
  split
  ·rename_i hc
   exact⟨0,x,Nat.zero_le _,rfl,rfl,hc.1,hc.2.1⟩
  ·rename_i hc
   cases g with
   | zero =>
    simp only[List.getElem?_cons_zero,Option.some.injEq] at hg;subst hg;exact absurd ⟨h1,h2,by simpa using h3⟩ hc
   | succ g =>
    obtain⟨h,m,e1,e2,e3,e4⟩:=uI T rg a b r (k+1) g n (by simpa using hg) h1 h2 (by rw[show k+1+g=k+(g+1) by omega];exact h3);exact⟨h+1,m,by omega,by simpa using e2,by rw[e3,show k+1+h=k+(h+1) by omega],e4⟩
theorem star {e q:PT} {V:Ty} {ρ:Nat->Nat} {ns:List NR} {n0:NR} {NQ:List Int} (hN:X7 e ns n0) (hpl:Pl ρ e q) (hwr:jE [] q V) (hnd:q.tG.Nodup) (Gh:bN NQ q) (hno:∀ x∈q.tG,x ∉ NQ) :
  ∃ f:Int->Int,(∀ (i:Nat) n,ns[i]?=some n->n.form=4->f (jW (fM e ns n0) i)=(ρ n.at_:Int)) /\
   ∀ (k:Int) (b c:Nat),(k,b,c)∈q.qF 0->∀ j:Nat,j<(fN e ns n0).length->f j=k->∃ h:Nat,(fN e ns n0)[j]?=some (h:Int)/\b<=h/\h<b+c:=by
 have aO:=hN.na;have hat:=hN.at_;obtain⟨plo,phi,hpos⟩:=hN.pos
 have hbk:=λi n hn=>C6 aO i n hn
 have hb1:∀ (i:Nat) n,(ns.map atR)[i]?=some n->jw (([]:List Ty).length+i) n:=λi n hn=>by
  rw[List.getElem?_map] at hn;obtain⟨m,hm,rfl⟩:=Option.map_eq_some_iff.1 hn
  simpa [jw,atR] using hbk i m hm
 have H1:∀ i n,ns[i]?=some n->ai (aU [] (ns.map atR)) (i:Nat)=cH (aU [] (ns.map atR)) (atR n):=λi n hn=>by
  have:=uB (ns.map atR) [] hb1 i (atR n) (by rw[List.getElem?_map,hn];rfl);rw[List.length_nil,Nat.zero_add] at this;exact this
 have hall:∀ i:Int,rP (λx=>∃ n∈ns,n.form=4/\n.at_=x) (ai (aU [] (ns.map atR)) i):=ke (FP _ _ (λt h=>by simp at h) (λn hn h4=>by
  obtain⟨m,hm,rfl⟩:=List.mem_map.1 hn
  exact⟨m,hm,h4,by simp[atR]⟩))
 obtain⟨_,_,o⟩:=PR H1 hpl hwr NQ [] 0 [] ns [] aO (by simp) rfl (λs V hs=>by simp[look] at hs) (λs V hs=>by simp[look] at hs) Gh;rw[Nat.zero_add,<- aO.len] at o
 have hone:AG ρ [] (ns.map atR):=Pk ρ _ _ hb1 (λi n hn hf=>by
  rw[List.getElem?_map] at hn;obtain⟨m,hm,rfl⟩:=Option.map_eq_some_iff.1 hn
  exact o.one i m (Nat.zero_le _) (List.getElem?_eq_some_iff.1 hm).1 hm hf)
 have hmin:∀ x,ρ (aX (mf ns n0) x)=ρ x:=C9 ns [] (List.range n0.aL) (λt h=>by simp at h) (by rw[List.length_range];exact hat) hone (λx=>by rw[vJ])
 have hkeep:wy (λx=>∃ n∈ns,n.form=4/\n.at_=x) (mf ns n0) :=
  uE ns [] (List.range n0.aL) (λi ⟨n,hn,_,he⟩=>by rw[List.length_range,<- he];exact hat n hn) (λi hi=>by rw[vJ];exact hi) (λt h=>by simp at h) (λn hn h4=>⟨n,hn,h4,rfl⟩)
 have UE:=(FL ns e ns plo phi 0 hpos (λk n hn=>by rw[Nat.zero_add];exact hn)).1
 have acd:(jx e ns n0).Nodup:=by
  unfold jx bf;have:=UE.sublist ((List.filter_sublist (p:=λn=>n.form==4 && aX (mf ns n0) n.at_==n.at_) (l:=bw ns (opn e 0))).map (·.at_));exact this.imp (λh=>Nat.ne_of_lt h)
 have ace:∀ x∈jx e ns n0,aX (mf ns n0) x=x/\∃ (i:Nat) (n:NR),ns[i]?=some n/\n.form=4/\n.at_=x:=λx hx=>by
  unfold jx bf at hx;obtain⟨n,hn,rfl⟩:=List.mem_map.1 hx;obtain⟨h1,h2⟩:=List.mem_filter.1 hn;simp only[Bool.and_eq_true,beq_iff_eq] at h2;obtain⟨i,hi⟩:=List.getElem?_of_mem ((FG aO n).1 h1);exact⟨h2.2,i,n,hi,h2.1,rfl⟩
 have hmem:∀ x,(∃ n∈ns,n.form=4/\n.at_=x)->aX (mf ns n0) x∈jx e ns n0:=λx hx=>by
  obtain⟨m,hm,m4,Wx⟩:=hkeep x hx;unfold jx bf;rw[List.mem_map];refine⟨m,List.mem_filter.2 ⟨J6 aO m hm,?_⟩,Wx⟩;rw[Wx,nu];simp[m4]
 have rM:∀ (l:List NR) (T:List Ty),aU (T.map (cC (λx=>(gW (jx e ns n0) (aX (mf ns n0) x)).toNat))) (j9 (mf ns n0) (jx e ns n0) l)=(aU T (l.map atR)).map (cC (λx=>(gW (jx e ns n0) (aX (mf ns n0) x)).toNat)):=λl=>by
  induction l with
  | nil=>intro T;simp[j9,aU]
  | cons n r ih =>
   intro T
   have e1:cH (T.map (cC (λx=>(gW (jx e ns n0) (aX (mf ns n0) x)).toNat))) (fo n (if n.form=4 then gW (jx e ns n0) (aX (mf ns n0) n.at_) else -1))=cC (λx=>(gW (jx e ns n0) (aX (mf ns n0) x)).toNat) (cH T (atR n)):=Jh _ T (atR n) _ rfl (λh4=>by
    have h4':n.form=4:=h4
    simp only[fo,atR,if_pos h4',Int.toNat_natCast])
   have WU:=ih (T++[cH T (atR n)]);rw[List.map_append,List.map_singleton,<- e1] at WU;simp only[j9,List.map_cons,aU] at WU ⊢;exact WU
 have L0:=rM ns [];rw[List.map_nil] at L0;have hTe:oG e ns n0=(aU [] (ns.map atR)).map (cC (λx=>(gW (jx e ns n0) (aX (mf ns n0) x)).toNat)):=L0
 have hNl:(fN e ns n0).length=(jx e ns n0).length:=by unfold fN iB;rw[List.length_map,List.length_range]
 have acf:∀ j,j<(jx e ns n0).length->(fN e ns n0)[j]?=some (ew (oG e ns n0) j (dA (oG e ns n0) j ns 0 n0.aL n0.at_).1 (dA (oG e ns n0) j ns 0 n0.aL n0.at_).2 ns 0):=λj hj=>by
  unfold fN iB;rw[List.getElem?_map,List.getElem?_range hj];rfl
 have hRg:∀ (i:Nat) n,ns[i]?=some n->n.form=4->jW (fM e ns n0) i=gW (jx e ns n0) (aX (mf ns n0) n.at_):=λi n hn h4=>by
  unfold fM;rw[rA _ _ ns i n hn,if_pos h4]
 clear rM L0 hkeep hone hb1 UE;generalize oG e ns n0=T2 at *;generalize fM e ns n0=R at *;generalize fN e ns n0=N at *;generalize jx e ns n0=fs at *;generalize mf ns n0=E at *;generalize aU [] (ns.map atR)=T1 at *
 have Ec:∀ x,(∃ n∈ns,n.form=4/\n.at_=x)->∃ j:Nat,gW fs (aX E x)=(j:Int)/\fs[j]?=some (aX E x):=λx hx=>by
  obtain⟨j,h1,_⟩:=Fs (hmem x hx);exact⟨j,h1,PX h1⟩
 have hf:∀ (j:Nat) (x:Nat),fs[j]?=some x->((ρ (fs.getD ((j:Int)).toNat 0):Nat):Int)=(ρ x:Int):=λj x h=>by
  rw[Int.toNat_natCast,List.getD_eq_getElem?_getD,h];rfl
 have UF:∀ (i:Int) (j:Nat),(ai T2 i).has j=true->(cC ρ (ai T1 i)).has ((ρ (fs.getD ((j:Int)).toNat 0):Nat):Int)=true:=λi j hh=>by
  rw[hTe,iJ] at hh;obtain⟨x,hx,hxj⟩:=(uH _ _ _).1 hh;obtain⟨j',h1,h2⟩:=Ec x (hall i x hx);rw[h1] at hxj
  have:j'=j:=by simp only[Int.toNat_natCast] at hxj;omega
  subst this;rw[hf j' _ h2,hmin];exact (uH _ _ _).2 ⟨x,hx,rfl⟩
 refine⟨λk=>((ρ (fs.getD k.toNat 0):Nat):Int),λi n hn h4=>?_,λk b c hm j hj hfj=>?_⟩
 ·obtain⟨j,h1,h2⟩:=Ec n.at_ ⟨n,List.mem_of_getElem? hn,h4,rfl⟩
  rw[hRg i n hn h4,h1];simp only;rw[hf j _ h2,hmin]
 ·rw[hNl] at hj
  simp only at hfj
  have hmk:k∈q.tG:=by rw[<- Di q 0];exact List.mem_map.2 ⟨_,hm,rfl⟩
  have hkn:=hno k hmk;obtain⟨_,n2,n3,n4⟩:=o.nw k b c hm;obtain⟨_,_,g3⟩:=Dk e ns plo phi 0 hpos b c (hpl.qG 0 k b c hm)
  have hin:∀ (i:Nat) n,ns[i]?=some n->(ai T2 (i:Int)).has j=true->b<=i/\i<b+c:=λi n hn hh=>by
   have h1:=UF i j hh;rw[hfj] at h1;obtain⟨b',c',m',hb',hc'⟩:=o.SJ i k (Nat.zero_le _) (List.getElem?_eq_some_iff.1 hn).1 h1 hkn;have:=map_inj (l:=q.qF 0) (g:=λx:Int × Nat × Nat=>x.1) (by rw[Di];exact hnd) _ hm _ m' rfl;simp only[Prod.mk.injEq,true_and] at this;omega
  obtain⟨_,ng,_,Yc,_⟩:=g3 (b+c-1) (by omega) (by omega);rw[Nat.sub_zero] at Yc;have ada:ng.at_<n0.aL:=hat ng (List.mem_of_getElem? Yc)
  have hgn:(ai T2 ((b+c-1:Nat):Int)).has j=false:=by
   cases hc:(ai T2 ((b+c-1:Nat):Int)).has j with
   | false=>rfl
   | true =>
    have h1:=UF _ j hc;rw[hfj,n4] at h1;cases h1
  have hlast:n0.at_<=ng.at_/\ng.aL<=n0.aL:=by
   obtain⟨_,_,s3⟩:=Dk e ns plo phi 0 hpos 0 e.cnt (BR e 0);obtain⟨m,n,e1,e2,e3⟩:=s3 (b+c-1) (Nat.zero_le _) (by have:=aO.len;omega);rw[Nat.sub_zero] at e1;have hl:=hN.last;rw[aO.len] at hl;rw[show 0+e.cnt-1-0=e.cnt-1 by omega,hl] at e2;rw[Yc] at e1;simp only[Option.some.injEq] at e1 e2;subst e1 e2;exact e3
  have adb:=bG.zV hpos ng (List.mem_of_getElem? Yc)
  obtain⟨s1,s2⟩:=vP T2 j ng.at_ ng.aL ns 0 n0.aL n0.at_ (λi n hn hh=>by
   rw[Nat.zero_add] at hh;obtain⟨i1,i2⟩:=hin i n hn hh;obtain⟨m,n',e1,e2,e3⟩:=g3 i i1 i2;rw[Nat.sub_zero] at e1 e2;rw[hn] at e1;rw[Yc] at e2;simp only[Option.some.injEq] at e1 e2;subst e1 e2
   exact e3) (by omega) (by omega)
  obtain⟨h,m,h1,h2,h3,h4,h5⟩:=uI T2 j _ _ ns 0 (b+c-1) ng Yc s1 s2 (by rw[Nat.zero_add];exact hgn);rw[Nat.zero_add] at h3;refine⟨h,by rw[acf j hj,h3],?_,by omega⟩
  -- the pair that is the first of its class
  obtain⟨hfx,i,n,hn,n4',iL⟩:=ace fs[j] (List.getElem_mem hj)
  have hjx:gW fs (aX E n.at_)=(j:Int):=by
   rw[iL,hfx];refine FQ fs fs[j] j hj (λi' y hi' hy e=>?_) rfl;subst e;have hl:=(List.getElem?_eq_some_iff.1 hy).1;have:=(List.getElem?_inj hl acd).1 (hy.trans (List.getElem?_eq_getElem hj).symm);omega
  have hti:(ai T2 (i:Int)).has j=true:=by
   rw[hTe,iJ,uH];refine⟨n.at_,?_,by rw[hjx];simp⟩;rw[H1 i n hn];have:(atR n).form=4:=n4';unfold cH;simp only[this];simp[Ty.u7,atR]
  obtain⟨i1,_⟩:=hin i n hn hti;obtain⟨_,_,p3⟩:=uF T2 j ns 0 n0.aL n0.at_;have hp:=p3 i n hn (by rw[Nat.zero_add];exact hti)
  have:¬ h<i:=λhlt=>FI hpos h i m n h2 hn hlt ⟨by omega,by omega⟩
  omega
end Go.Proofs.YtpicaknklgccoabGreatDoor
