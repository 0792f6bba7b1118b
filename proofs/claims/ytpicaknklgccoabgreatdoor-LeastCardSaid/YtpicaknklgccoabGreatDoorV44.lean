import Derived.Test.YtpicaknklgccoabGreatDoorV43
set_option maxHeartbeats 4000000
set_option maxRecDepth 100000
namespace Go.Proofs.YtpicaknklgccoabGreatDoor
open Go.Lib (decDigits)
def wT (k m:Nat) (e:PT):PT:=if m=k then .node 0 .new [] (Au 0) [e] else e
def P4 (k:Kw):List UInt8:=if k=.pair then Au 0 else []
def cB (k:Nat):KE->Nat->PT × Nat
 | .num n,m=>(wT k m (.num 0 (decDigits n)),m+1)
 | .var n,m=>(wT k m (.name 0 (aE n)),m+1)
 | .n1 kw a,m=>(wT k m (.node 0 kw [] (P4 kw) [(cB k a (m+1)).1]),(cB k a (m+1)).2)
 | .n2 kw n a b,m=>(wT k m (.node 0 kw (cQ kw n) (P4 kw) [(cB k a (m+1)).1,(cB k b (cB k a (m+1)).2).1]),(cB k b (cB k a (m+1)).2).2)
 | .n3 kw n a b c,m=>(wT k m (.node 0 kw (cQ kw n) (P4 kw) [(cB k a (m+1)).1,(cB k b (cB k a (m+1)).2).1,(cB k c (cB k b (cB k a (m+1)).2).2).1]),(cB k c (cB k b (cB k a (m+1)).2).2).2)
def Mg (k m:Nat):Int:=if m=k then 0 else 5
def xu (kw:Kw):List Int:=if kw=.pair then [0] else []
def oT (k:Nat):KE->Nat->List Int
 | .num _,m=>[Mg k m]
 | .var _,m=>[Mg k m]
 | .n1 kw a,m=>xu kw++(oT k a (m+1)++[Mg k m])
 | .n2 kw _ a b,m=>xu kw++(oT k a (m+1)++(oT k b (cB k a (m+1)).2++[Mg k m]))
 | .n3 kw _ a b c,m=>xu kw++(oT k a (m+1)++(oT k b (cB k a (m+1)).2++(oT k c (cB k b (cB k a (m+1)).2).2++[Mg k m])))
theorem Kl {raw pre post:List Int} {c:Int} (hr:raw=pre++(c::post)) (n:Nat) {s:fC} (h:s.at_=pre.length):aT raw n s=(jn c n,{ s with at_:=s.at_+1 }):=by
 have hne:raw≠[]:=by rw[hr];simp
 have hl:s.at_<raw.length:=by rw[hr,h];simp
 unfold aT;rw[if_neg hne,Nat.mod_eq_of_lt hl,List.getD_eq_getElem?_getD,hr,h,List.getElem?_append_right (Nat.le_refl _),Nat.sub_self];rfl
theorem uK {raw pre post:List Int} {k m:Nat} (hr:raw=pre++(Mg k m::post)) (e:PT) {s:fC} (h:s.at_=pre.length):gf raw e s=(wT k m e,{ s with at_:=s.at_+1 }):=by
 unfold gf;rw[Kl hr 12 h];unfold wT Mg
 by_cases e1:m=k
 ·simp only[if_pos e1]
  rw[if_pos (by decide)];rfl
 ·simp only[if_neg e1]
  rw[if_neg (by decide)]
theorem P5 {raw pre post:List Int} {kw:Kw} (hr:raw=pre++(xu kw++post)) {s:fC} (h:s.at_=pre.length):mq raw kw s=(P4 kw,{ s with at_:=s.at_+(xu kw).length }):=by
 unfold mq P4
 by_cases e1:kw=.pair
 ·have:xu kw=[0]:=by unfold xu;rw[if_pos e1]
  rw[this] at hr ⊢;rw[if_pos e1,if_pos e1,Kl (post:=post) hr 4 h];rfl
 ·have:xu kw=[]:=by unfold xu;rw[if_neg e1]
  rw[if_neg e1,if_neg e1,this];rfl
theorem oI (k:Nat):∀ (x:KE) (m:Nat) (raw pre post:List Int) (s:fC),raw=pre++(oT k x m++post)->s.at_=pre.length->bt raw x s=((cB k x m).1,{ s with at_:=s.at_+(oT k x m).length })
 | .num n,m,raw,pre,post,s,hr,h=>by
  simp only[bt,cB,oT,List.length_singleton] at hr ⊢;exact uK hr _ h
 | .var n,m,raw,pre,post,s,hr,h=>by
  simp only[bt,cB,oT,List.length_singleton] at hr ⊢;exact uK hr _ h
 | .n1 kw a,m,raw,pre,post,s,hr,h=>by
  simp only[oT,List.append_assoc] at hr;have h1:=P5 (s:=s) hr h;have h2:=oI k a (m+1) raw (pre++xu kw) ([Mg k m]++post) { s with at_:=s.at_+(xu kw).length } (by rw[hr];simp) (by simp[h]);simp only[bt,cB,h1,h2];rw[uK (pre:=pre++(xu kw++oT k a (m+1))) (post:=post) (k:=k) (m:=m) (by rw[hr];simp) _ (by simp[h];omega)];simp only[oT,List.length_append,List.length_singleton];simp only[Nat.add_assoc]
 | .n2 kw n a b,m,raw,pre,post,s,hr,h=>by
  simp only[oT,List.append_assoc] at hr;have h1:=P5 (s:=s) hr h;have h2:=oI k a (m+1) raw (pre++xu kw) (oT k b (cB k a (m+1)).2++([Mg k m]++post)) { s with at_:=s.at_+(xu kw).length } (by rw[hr];simp) (by simp[h]);have h3:=oI k b (cB k a (m+1)).2 raw (pre++(xu kw++oT k a (m+1))) ([Mg k m]++post) { s with at_:=s.at_+(xu kw).length+(oT k a (m+1)).length } (by rw[hr];simp) (by simp[h];omega);simp only[bt,cB,h1,h2,h3];rw[uK (pre:=pre++(xu kw++(oT k a (m+1)++oT k b (cB k a (m+1)).2))) (post:=post) (k:=k) (m:=m) (by rw[hr];simp) _ (by simp[h];omega)];simp only[oT,List.length_append,List.length_singleton];simp only[Nat.add_assoc]
 | .n3 kw n a b c,m,raw,pre,post,s,hr,h=>by
  simp only[oT,List.append_assoc] at hr;have h1:=P5 (s:=s) hr h;have h2:=oI k a (m+1) raw (pre++xu kw) (oT k b (cB k a (m+1)).2++(oT k c (cB k b (cB k a (m+1)).2).2++([Mg k m]++post))) { s with at_:=s.at_+(xu kw).length } (by rw[hr];simp) (by simp[h]);have h3:=oI k b (cB k a (m+1)).2 raw (pre++(xu kw++oT k a (m+1))) (oT k c (cB k b (cB k a (m+1)).2).2++([Mg k m]++post)) { s with at_:=s.at_+(xu kw).length+(oT k a (m+1)).length } (by rw[hr];simp) (by simp[h];omega);have h4:=oI k c (cB k b (cB k a (m+1)).2).2 raw (pre++(xu kw++(oT k a (m+1)++oT k b (cB k a (m+1)).2))) ([Mg k m]++post) { s with at_:=s.at_+(xu kw).length+(oT k a (m+1)).length+(oT k b (cB k a (m+1)).2).length } (by rw[hr];simp) (by simp[h];omega);simp only[bt,cB,h1,h2,h3,h4];rw[uK (pre:=pre++(xu kw++(oT k a (m+1)++(oT k b (cB k a (m+1)).2++oT k c (cB k b (cB k a (m+1)).2).2)))) (post:=post) (k:=k) (m:=m) (by rw[hr];simp) _ (by simp[h];omega)];simp only[oT,List.length_append,List.length_singleton];simp only[Nat.add_assoc]
theorem P6 (k:Nat) (x:KE):(cB k x 0).1=(bt (oT k x 0) x ⟨0,0,[]⟩).1:=by
 rw[oI k x 0 (oT k x 0) [] [] ⟨0,0,[]⟩ (by simp) rfl]
theorem mO (k:Nat):∀ (x:KE) (m:Nat),(cB k x m).2=m+x.cnt
 | .num _,_=>rfl
 | .var _,_=>rfl
 | .n1 _ a,m=>by simp only[cB,KE.cnt,mO k a];omega
 | .n2 _ _ a b,m=>by simp only[cB,KE.cnt,mO k a,mO k b];omega
 | .n3 _ _ a b c,m=>by simp only[cB,KE.cnt,mO k a,mO k b,mO k c];omega
open Go.RowKit
theorem zZ (raw:List Int) (e:PT) (s:fC):e.tidy.length<=(gf raw e s).1.tidy.length:=by
 unfold gf;simp only
 split
 ·simp[PT.tidy,bT,bh,bF];omega
 ·exact Nat.le_refl _
def mD (raw:List Int):List KE->fC->List PT × fC
 | [],s=>([],s)
 | x::r,s=>((bt raw x s).1::(mD raw r (bt raw x s).2).1,(mD raw r (bt raw x s).2).2)
theorem Km (raw:List Int):∀ (ks:List KE) (s:fC) (j:Nat) (h:j<ks.length),(mD raw ks s).1[j]?=some (bt raw ks[j] (mD raw (ks.take j) s).2).1/\(mD raw (ks.take (j+1)) s).2=(bt raw ks[j] (mD raw (ks.take j) s).2).2
 | [],_,_,h=>by simp at h
 | x::r,s,0,_=>by simp[mD]
 | x::r,s,j+1,h=>by
  obtain⟨h1,h2⟩:=Km raw r (bt raw x s).2 j (by simpa using h);simp only[mD,List.getElem?_cons_succ,List.take_succ_cons,List.getElem_cons_succ];exact⟨h1,h2⟩
theorem FW (raw:List Int):∀ (ks:List KE) (s:fC),(mD raw ks s).1.length=ks.length
 | [],_=>rfl
 | x::r,s=>by simp[mD,FW raw r]
theorem vR:∀ l:List PT,bT l=l.map PT.tidy
 | []=>rfl
 | t::r=>by simp[bT,vR r]
theorem gA (raw:List Int) (e:PT) (s:fC):s.at_<=(gf raw e s).2.at_:=(bI raw 12 s).2.2.1
theorem kf (raw:List Int):∀ (x:KE) (s:fC),s.at_<=(bt raw x s).2.at_
 | .num _,s=>gA raw _ s
 | .var _,s=>gA raw _ s
 | .n1 k a,s=>by
  simp only[bt];exact Nat.le_trans (tk raw k s).2.1 (Nat.le_trans (kf raw a _) (gA raw _ _))
 | .n2 k n a b,s=>by
  simp only[bt];exact Nat.le_trans (tk raw k s).2.1 (Nat.le_trans (kf raw a _) (Nat.le_trans (kf raw b _) (gA raw _ _)))
 | .n3 k n a b c,s=>by
  simp only[bt];exact Nat.le_trans (tk raw k s).2.1 (Nat.le_trans (kf raw a _) (Nat.le_trans (kf raw b _) (Nat.le_trans (kf raw c _) (gA raw _ _))))
theorem vS (raw:List Int):∀ (ks:List KE) (s:fC),s.at_<=(mD raw ks s).2.at_
 | [],_=>Nat.le_refl _
 | x::r,s=>Nat.le_trans (kf raw x s) (vS raw r _)
theorem BX (raw:List Int):∀ (ks:List KE) (s:fC) (j:Nat),(mD raw (ks.take j) s).2.at_<=(mD raw ks s).2.at_
 | [],_,_=>by simp
 | x::r,s,0=>vS raw (x::r) s
 | x::r,s,j+1=>by simp only[List.take_succ_cons,mD];exact BX raw r _ j
theorem uL {w0 W:World} {yb:Nat} {rv:Value} {raw:List Int} {s:fC} {nv:Value} (hit:∀ W,Below w0.heap.size w0 W->pP W) (n:Nat) (hn:n<=9999) (h:cd w0 W yb rv raw s nv) :
  Calls Tryz.prog 9 #[.pointer (some ⟨W.heap.size,0,none⟩)] (W.alloc (.cells (MG n (.pointer none) (.pointer none)) 29 (0,0))) λv w'=>v=.returned (.string (bs (decDigits n)))/\Below W.heap.size W w':=by
 have hal:=bg (Below.refl _ W) (.cells (MG n (.pointer none) (.pointer none)) 29 (0,0));refine Calls.mono (qW (.n n) .n W.heap.size _ (show n<=9999 by omega) (by simp[Ty.size]) (aj _ _) (λW' hW'=>hit W' (h.ob.b0.trans ((hal.trans (hW'.mono hal.size)).mono h.ob.b0.size)))) ?_;rintro v w' ⟨rfl,hb⟩;exact⟨rfl,hal.trans (hb.mono hal.size)⟩
def P7 (raw:List Int) (x:KE):Prop:=∀ (w0 w:World) (yb p:Nat) (rv nv:Value) (s:fC),cd w0 w yb rv raw s nv->eD w0 x p->(bt raw x s).1.tidy.length<=100000->(bt raw x s).2.at_<=1000000->(∀ W,Below w0.heap.size w0 W->pP W) ->
 Calls Tryz.prog 19 #[.pointer (some ⟨p,0,none⟩),.pointer (some ⟨yb,0,none⟩)] w λe w'=>e=.returned (.string (bs (bt raw x s).1.tidy))/\cd w0 w' yb rv raw (bt raw x s).2 nv
theorem tz (raw:List Int) (e:PT) (s:fC) (k12:Nat) (s12:fC) (hx:aT raw 12 s=(k12,s12)):(gf raw e s).2=s12/\(k12<4->ByteArray.mk #[40,110,101,119,32,35]++bs (decDigits k12)++ByteArray.mk #[32]++bs e.tidy++ByteArray.mk #[41]=bs (gf raw e s).1.tidy)/\(¬ k12<4->bs e.tidy=bs (gf raw e s).1.tidy):=by
 unfold gf;rw[hx];refine⟨rfl,λh=>?_,λh=>?_⟩
 ·simp only[if_pos h]
  rw[show ByteArray.mk #[40,110,101,119,32,35]=bs [40,110,101,119,32,35] from rfl,show ByteArray.mk #[32]=bs [32] from rfl,show ByteArray.mk #[41]=bs [41] from rfl,bD,bD,bD,bD]
  congr 1
  have hne:Au k12≠[]:=by unfold Au;simp
  simp[PT.tidy,bT,bh,bF,dn,Kw.bytes,Au]
 ·simp only[if_neg h]
theorem P8 (raw:List Int) (n:Nat) (hn:n<=9999):P7 raw (.num n):=by
 intro w0 w yb p rv nv s hmk hx hlen hat hit;have hx':w0.heap[p]?=some (.cells (pF [] n (.slice none 0 0)) 59 (0,0)):=hx;have hx2:w.heap[p]?=some (.cells (pF [] n (.slice none 0 0)) 59 (0,0)):=(hmk.ob.b0.block p (af hx')).trans hx';have hp:=af hx2
 have x0:w.cell? ⟨p,0,none⟩=some (.string ⟨#[]⟩):=by rw[aa hx2];rfl
 have x1:w.cell? ⟨p,1,none⟩=some (.int .i64 n):=by rw[aa hx2];rfl
 simp only[bt] at hlen hat ⊢;obtain⟨T,hT⟩:∃ T,T=(PT.num 0 (decDigits n)):=⟨_,rfl⟩
 have P9:T.tidy=decDigits n:=by rw[hT];rfl
 rw[<- hT] at hlen hat ⊢;have BZ:=gA raw T s
 have iL:=λ(W:World) (h:cd w0 W yb rv raw s nv)=>dh 12 (by omega) (by omega) h (by omega)
 obtain⟨k12,s12,Kn⟩:∃ k12 s12,aT raw 12 s=(k12,s12):=⟨_,_,rfl⟩;obtain⟨f1,f2,f3⟩:=tz raw T s k12 s12 Kn
 have aaJ:k12<12:=by have:=bZ raw 12 s (by omega);rw[Kn] at this;exact this
 rw[f1]
 have hto:=λ(m:Nat) (W:World) (s':fC) (hm:m<=9999) (h:cd w0 W yb rv raw s' nv)=>uL hit m hm h
 have hwl:=zZ raw T s
 have nf:Hid (∀ (W:World) (h:cd w0 W yb rv raw s nv),Calls Tryz.prog 34 #[.pointer (some ⟨yb,0,none⟩),.int .i64 (12:Nat)] W λe w'=>e=.returned (.int .i64 (k12:Nat))/\cd w0 w' yb rv raw s12 nv):=λW h=>(iL W h).mono λ_ _ ⟨a,_,c⟩=>by rw[Kn] at a c;exact⟨a,c⟩
 have uT:Hid _:=f2;have uU:Hid _:=f3;have GG:Hid _:=hto;have Hh:Hid _:=hmk
 have zt:(bs T.tidy).size<=100000:=by rw[bE];omega
 have LX:Hid _:=P9;have SX:Hid _:=hto n w s hn hmk;clear hx hx' hx2 hmk hlen hat hit hT P9 BZ iL Kn f1 f2 f3 hto hwl
 go_enter Tryz.func19,Tryz.ntmps19
 go_wp2_with fail
 refine Calls.mono SX.out ?_;rintro _ w1 ⟨rfl,hb1⟩;have lz:Hid _:=Hh.out.grow hb1;clear hb1 Hh;rw[<- LX.out];clear LX
 go_wp2_with fail
 refine Calls.mono (nf.out _ lz.out) ?_;rintro _ w8 ⟨rfl,UJ⟩;have Qa:Hid _:=UJ;clear UJ nf
 by_cases h4:k12<4
 ·have FX:=uT.out h4
  have Aa:Hid _:=FX;have UK:Hid _:=GG.out k12 w8 _ (by omega) Qa.out
  have zk:(bs (decDigits k12)).size<=2:=by rw[bE];exact iq k12 (by omega)
  have zl:(ByteArray.mk #[40,110,101,119,32,35]).size=6:=rfl;have zs:(ByteArray.mk #[32]).size=1:=rfl;have zc:(ByteArray.mk #[41]).size=1:=rfl
  have za:(ByteArray.mk #[40,110,101,119,32,35]++bs (decDigits k12)).size<=8:=by rw[ByteArray.size_append];omega
  have zb:(ByteArray.mk #[40,110,101,119,32,35]++bs (decDigits k12)++ByteArray.mk #[32]).size<=9:=by rw[ByteArray.size_append];omega
  have zd:(ByteArray.mk #[40,110,101,119,32,35]++bs (decDigits k12)++ByteArray.mk #[32]++bs T.tidy).size<=100009:=by rw[ByteArray.size_append];omega
  clear FX uT uU GG
  go_wp2_with fail
  refine Calls.mono UK.out ?_;rintro _ w9 ⟨rfl,MN⟩;have QN:Hid _:=MN;clear MN UK
  go_wp2
  go_ret
  exact⟨by rw[Aa.out];rfl,Qa.out.grow QN.out⟩
 ·have FX:=uU.out h4
  have Ab:Hid _:=FX;clear FX uT uU GG
  go_wp2
  go_ret
  exact⟨by rw[Ab.out];rfl,Qa.out⟩
theorem Qb (raw:List Int) (n:Nat) (hn:n<=1000):P7 raw (.var n):=by
 intro w0 w yb p rv nv s hmk hx hlen hat hit;have hx':w0.heap[p]?=some (.cells (pF [120] n (.slice none 0 0)) 59 (0,0)):=hx;have hx2:w.heap[p]?=some (.cells (pF [120] n (.slice none 0 0)) 59 (0,0)):=(hmk.ob.b0.block p (af hx')).trans hx';have hp:=af hx2
 have x0:w.cell? ⟨p,0,none⟩=some (.string ⟨#[120]⟩):=by rw[aa hx2];rfl
 have x1:w.cell? ⟨p,1,none⟩=some (.int .i64 n):=by rw[aa hx2];rfl
 simp only[bt] at hlen hat ⊢;obtain⟨T,hT⟩:∃ T,T=(PT.name 0 (aE n)):=⟨_,rfl⟩
 have P9:T.tidy=aE n:=by rw[hT];rfl
 rw[<- hT] at hlen hat ⊢;have BZ:=gA raw T s
 have iL:=λ(W:World) (h:cd w0 W yb rv raw s nv)=>dh 12 (by omega) (by omega) h (by omega)
 obtain⟨k12,s12,Kn⟩:∃ k12 s12,aT raw 12 s=(k12,s12):=⟨_,_,rfl⟩;obtain⟨f1,f2,f3⟩:=tz raw T s k12 s12 Kn
 have aaJ:k12<12:=by have:=bZ raw 12 s (by omega);rw[Kn] at this;exact this
 rw[f1]
 have hto:=λ(m:Nat) (W:World) (s':fC) (hm:m<=9999) (h:cd w0 W yb rv raw s' nv)=>uL hit m hm h
 have hwl:=zZ raw T s
 have nf:Hid (∀ (W:World) (h:cd w0 W yb rv raw s nv),Calls Tryz.prog 34 #[.pointer (some ⟨yb,0,none⟩),.int .i64 (12:Nat)] W λe w'=>e=.returned (.int .i64 (k12:Nat))/\cd w0 w' yb rv raw s12 nv):=λW h=>(iL W h).mono λ_ _ ⟨a,_,c⟩=>by rw[Kn] at a c;exact⟨a,c⟩
 have uT:Hid _:=f2;have uU:Hid _:=f3;have GG:Hid _:=hto;have Hh:Hid _:=hmk
 have zt:(bs T.tidy).size<=100000:=by rw[bE];omega
 have LX:Hid _:=P9;have SX:Hid _:=lB n hn w;clear hx hx' hx2 hmk hlen hat hit hT P9 BZ iL Kn f1 f2 f3 hto hwl
 go_enter Tryz.func19,Tryz.ntmps19
 go_wp2_with fail
 refine Calls.mono SX.out ?_;rintro _ w1 ⟨rfl,hb1⟩;have lz:Hid _:=Hh.out.grow hb1;clear hb1 Hh;rw[<- LX.out];clear LX
 go_wp2_with fail
 refine Calls.mono (nf.out _ lz.out) ?_;rintro _ w8 ⟨rfl,UJ⟩;have Qa:Hid _:=UJ;clear UJ nf
 by_cases h4:k12<4
 ·have FX:=uT.out h4
  have Aa:Hid _:=FX;have UK:Hid _:=GG.out k12 w8 _ (by omega) Qa.out
  have zk:(bs (decDigits k12)).size<=2:=by rw[bE];exact iq k12 (by omega)
  have zl:(ByteArray.mk #[40,110,101,119,32,35]).size=6:=rfl;have zs:(ByteArray.mk #[32]).size=1:=rfl;have zc:(ByteArray.mk #[41]).size=1:=rfl
  have za:(ByteArray.mk #[40,110,101,119,32,35]++bs (decDigits k12)).size<=8:=by rw[ByteArray.size_append];omega
  have zb:(ByteArray.mk #[40,110,101,119,32,35]++bs (decDigits k12)++ByteArray.mk #[32]).size<=9:=by rw[ByteArray.size_append];omega
  have zd:(ByteArray.mk #[40,110,101,119,32,35]++bs (decDigits k12)++ByteArray.mk #[32]++bs T.tidy).size<=100009:=by rw[ByteArray.size_append];omega
  clear FX uT uU GG
  go_wp2_with fail
  refine Calls.mono UK.out ?_;rintro _ w9 ⟨rfl,MN⟩;have QN:Hid _:=MN;clear MN UK
  go_wp2
  go_ret
  exact⟨by rw[Aa.out];rfl,Qa.out.grow QN.out⟩
 ·have FX:=uU.out h4
  have Ab:Hid _:=FX;clear FX uT uU GG
  go_wp2
  go_ret
  exact⟨by rw[Ab.out];rfl,Qa.out⟩
theorem kg (raw:List Int) (x:KE) (k:Kw) (n:Nat) (ks:List KE) (hkn:k≠.new) (hn:n<=1000)
  (hF:∀ s,bt raw x s=gf raw (.node 0 k (cQ k n) (mq raw k s).1 (mD raw ks (mq raw k s).2).1) (mD raw ks (mq raw k s).2).2)
  (hin:∀ w p,eD w x p->Bq w p k n ks) (qQ:ks.length<=3) (ih:∀ y∈ks,P7 raw y):P7 raw x:=by
 intro w0 w yb p rv nv s hmk hx hlen hat hit;obtain⟨c,hc0,hb0,yC⟩:=hin w0 p hx;have nT:=af hb0
 have hcell:∀ W,Below w0.heap.size w0 W->p<W.heap.size/\c<W.heap.size/\W.cell? ⟨p,0,none⟩=some (.string (bs k.bytes))/\W.cell? ⟨p,1,none⟩=some (.int .i64 n)/\W.cell? ⟨p,2,none⟩=some (.slice (some ⟨c,0,none⟩) ks.length ks.length):=λW hW=>by
  have hb:W.heap[p]?=some (.cells (pF k.bytes n (.slice (some ⟨c,0,none⟩) ks.length ks.length)) 59 (0,0)):=(hW.block p nT).trans hb0;have:=hW.size;exact⟨by omega,by omega,by rw[aa hb];rfl,by rw[aa hb];rfl,by rw[aa hb];rfl⟩
 have h1:((bs k.bytes).toList==[])=false:=by rw[aM];cases k <;> decide
 have h2:((bs k.bytes).toList==[120])=false:=by rw[aM];cases k <;> decide
 obtain⟨bp,Y6⟩:∃ bp,((bs k.bytes).toList==[112,97,105,114])=bp:=⟨_,rfl⟩;obtain⟨bl,hl⟩:∃ bl,((bs k.bytes).toList==[108,101,116])=bl:=⟨_,rfl⟩;obtain⟨bo,ho⟩:∃ bo,((bs k.bytes).toList==[108,111,111,112])=bo:=⟨_,rfl⟩
 have hP:bp=decide (k=.pair):=by rw[<- Y6,aM];cases k <;> decide
 have hL:bl=decide (k=.aP):=by rw[<- hl,aM];cases k <;> decide
 have hO:bo=decide (k=.loop):=by rw[<- ho,aM];cases k <;> decide
 have Gu:¬ (bl=true/\bo=true):=by rw[hL,hO];cases k <;> simp
 rw[hF] at hlen hat ⊢;obtain⟨r4,s4,Aq⟩:∃ r4 s4,aT raw 4 s=(r4,s4):=⟨_,_,rfl⟩
 have ade:r4<4:=by have:=bZ raw 4 s (by omega);rw[Aq] at this;exact this
 obtain⟨rg,s1,hz⟩:∃ rg s1,mq raw k s=(rg,s1):=⟨_,_,rfl⟩;rw[hz] at hlen hat ⊢;simp only at hlen hat ⊢
 have hzP:bp=true->rg=Au r4/\s1=s4:=by
  intro h;rw[hP,decide_eq_true_eq] at h;unfold mq at hz;rw[if_pos h,Aq] at hz;simp only[Prod.mk.injEq] at hz;exact⟨hz.1.symm,hz.2.symm⟩
 have hzN:bp=false->rg=[]/\s1=s:=by
  intro h;rw[hP,decide_eq_false_iff_not] at h;unfold mq at hz;rw[if_neg h] at hz;simp only[Prod.mk.injEq] at hz;exact⟨hz.1.symm,hz.2.symm⟩
 have hs1:s.at_<=s1.at_:=by have:=(tk raw k s).2.1;rw[hz] at this;exact this
 obtain⟨T,hT⟩:∃ T,T=PT.node 0 k (cQ k n) rg (mD raw ks s1).1:=⟨_,rfl⟩;rw[<- hT] at hlen hat ⊢;obtain⟨s2,hs2⟩:∃ s2,s2=(mD raw ks s1).2:=⟨_,rfl⟩;rw[<- hs2] at hlen hat ⊢;have BZ:=gA raw T s2;have aaK:=vS raw ks s1;rw[<- hs2] at aaK;obtain⟨k12,s12,Kn⟩:∃ k12 s12,aT raw 12 s2=(k12,s12):=⟨_,_,rfl⟩;obtain⟨f1,f2,f3⟩:=tz raw T s2 k12 s12 Kn
 have aaJ:k12<12:=by have:=bZ raw 12 s2 (by omega);rw[Kn] at this;exact this
 have hwl:=zZ raw T s2;rw[f1] at hat ⊢;rw[f1] at BZ
 have nf:Hid (∀ (W:World) (h:cd w0 W yb rv raw s2 nv),Calls Tryz.prog 34 #[.pointer (some ⟨yb,0,none⟩),.int .i64 (12:Nat)] W λe w'=>e=.returned (.int .i64 (k12:Nat))/\cd w0 w' yb rv raw s12 nv):=λW h=>(dh 12 (by omega) (by omega) h (by omega)).mono λ_ _ ⟨a,_,c⟩=>by rw[Kn] at a c;exact⟨a,c⟩
 have HN4:Hid (∀ (W:World) (h:cd w0 W yb rv raw s nv),Calls Tryz.prog 34 #[.pointer (some ⟨yb,0,none⟩),.int .i64 (4:Nat)] W λe w'=>e=.returned (.int .i64 (r4:Nat))/\cd w0 w' yb rv raw s4 nv):=λW h=>(dh 4 (by omega) (by omega) h (by omega)).mono λ_ _ ⟨a,_,c⟩=>by rw[Aq] at a c;exact⟨a,c⟩
 have hto:=λ(m:Nat) (W:World) (s':fC) (hm:m<=9999) (h:cd w0 W yb rv raw s' nv)=>uL hit m hm h
 obtain⟨ts,hts⟩:∃ ts,ts=(mD raw ks s1).1.map PT.tidy:=⟨_,rfl⟩
 have htl:ts.length=ks.length:=by rw[hts];simp[FW]
 obtain⟨pre,hpre⟩:∃ pre,pre=40::(k.bytes++dn rg):=⟨_,rfl⟩
 have JG:T.tidy=40::(k.bytes++(dn rg++(bh k (aE n) 0 ts++[41]))):=by rw[hT,hts];simp only[PT.tidy,vR,fR]
 have hfin:cN pre k (aE n) ts ks.length++[41]=T.tidy:=by
  rw[JG,hpre];unfold cN;rw[<- htl,List.take_length];simp
 have yD:pre.length+(bh k (aE n) 0 ts).length+1=T.tidy.length:=by rw[JG,hpre];simp;omega
 have yE:=λj=>CE pre k (aE n) ts j
 obtain⟨sj,hsj⟩:∃ sj:Nat->fC,sj=λj=>(mD raw (ks.take j) s1).2:=⟨_,rfl⟩
 have Mh:sj 0=s1:=by rw[hsj];simp[mD]
 have Qc:sj ks.length=s2:=by rw[hsj,hs2];simp
 have hall:∀ j,(hj:j<ks.length)->∀ w',cd w0 w' yb rv raw (sj j) nv->∃ (q:Nat) (tx:List UInt8),w'.cell? ⟨c,j,none⟩=some (.pointer (some ⟨q,0,none⟩))/\ts[j]?=some tx/\tx.length<=100000 /\
   Calls Tryz.prog 19 #[.pointer (some ⟨q,0,none⟩),.pointer (some ⟨yb,0,none⟩)] w' (λe w''=>e=.returned (.string (bs tx))/\cd w0 w'' yb rv raw (sj (j+1)) nv):=by
  intro j hj w' hw';obtain⟨q,hq,hy⟩:=yC j ks[j] (List.getElem?_eq_getElem hj);obtain⟨g1,g2⟩:=Km raw ks s1 j hj
  have kZ:ts[j]?=some (bt raw ks[j] (sj j)).1.tidy:=by rw[hts,List.getElem?_map,g1,hsj];rfl
  have hm:=qR k (aE n) ts 0 _ (List.mem_of_getElem? kZ)
  have hst:(bt raw ks[j] (sj j)).2=sj (j+1):=by rw[hsj];exact g2.symm
  have jQ:=BX raw ks s1 (j+1);rw[<- hs2] at jQ
  have acs:sj (j+1)=(mD raw (ks.take (j+1)) s1).2:=by rw[hsj]
  refine⟨q,_,(hw'.ob.b0.cell (p:=⟨c,j,none⟩) hc0).trans hq,kZ,by omega,?_⟩;have:=ih ks[j] (List.getElem_mem hj) w0 w' yb q rv nv (sj j) hw' hy (by omega) (by rw[hst,acs];omega) hit;rw[hst] at this;exact this
 have hnm:=λW=>lB n hn W
 have hkb:k.bytes.length<=4:=by cases k <;> decide
 have hz':∀ j,(bs (cN pre k (aE n) ts j)).size<=100000:=λj=>by rw[bE];have:=yE j;omega
 have yF:Hid _:=hall;have MD:Hid _:=hnm;have yG:Hid _:=hfin;have HL:Hid _:=hL;have HO:Hid _:=hO;have HZ:Hid _:=hz';have HC:Hid _:=hcell;have uT:Hid _:=f2;have uU:Hid _:=f3;have GG:Hid _:=hto;have Hh:Hid _:=hmk
 have zt:(bs T.tidy).size<=100000:=by rw[bE];omega
 have z1:(ByteArray.mk #[40]).size=1:=rfl
 have z2:(bs k.bytes).size<=4:=by rw[bE];exact hkb
 have z3:(bs (aE n)).size=3:=rfl
 have zR:(bs (decDigits r4)).size<=2:=by rw[bE];exact iq r4 (by omega)
 have zS:(ByteArray.mk #[40]++bs k.bytes).size<=5:=by rw[ByteArray.size_append];omega
 have zH:(ByteArray.mk #[32,35]).size=2:=rfl
 have zU:(ByteArray.mk #[40]++bs k.bytes++ByteArray.mk #[32,35]).size<=7:=by rw[ByteArray.size_append];omega
 have e0:bp=true->ByteArray.mk #[40]++bs k.bytes++ByteArray.mk #[32,35]++bs (decDigits r4)=bs (cN pre k (aE n) ts 0):=by
  intro h;rw[show ByteArray.mk #[40]=bs [40] from rfl,show ByteArray.mk #[32,35]=bs [32,35] from rfl,bD,bD,bD,hpre,(hzP h).1]
  have hne:Au r4≠[]:=by unfold Au;simp
  simp[cN,bh,dn,Au]
 have e1:bp=false->ByteArray.mk #[40]++bs k.bytes=bs (cN pre k (aE n) ts 0):=by
  intro h;rw[show ByteArray.mk #[40]=bs [40] from rfl,bD,hpre,(hzN h).1];simp[cN,bh,dn]
 have E0:Hid _:=e0;have E1:Hid _:=e1
 have E2:Hid (bp=true->sj 0=s4):=λh=>Mh.trans (hzP h).2
 have E3:Hid (bp=false->sj 0=s):=λh=>Mh.trans (hzN h).2
 have kP:Hid _:=Qc;obtain⟨X5,hcw,x0,x1,x2⟩:=hcell w hmk.ob.b0;clear hall hx yC ih hit hL hO hP JG hin hfin hpre hts yE hnm hz' e0 e1 hb0 hlen yD hkb hcell hmk f1 f2 f3 hto Kn hwl BZ hzP hzN hs1 aaK hT hs2 hsj Mh Qc hz Aq hF hat nT hc0
 go_enter Tryz.func19,Tryz.ntmps19
 cases bp
 case' false =>
  have Y7:Hid _:=E1.out rfl
  have Yd:Hid (cd w0 w yb rv raw (sj 0) nv):=by have:=Hh.out;rw[<- E3.out rfl] at this;exact this
  clear E0 E1 E2 E3 HN4
 case' true =>
  have Y7:Hid _:=E0.out rfl;have Dv:=E2.out rfl;rw[<- Dv] at HN4;clear E0 E1 E2 E3 Dv
  go_wp2_with fail
  refine Calls.mono (HN4.out _ Hh.out) ?_;rintro _ w5 ⟨rfl,Ar⟩;have HT5:Hid _:=GG.out r4 w5 _ (by omega) Ar;have Jw:Hid _:=Ar;clear Ar HN4
  go_wp2_with fail
  refine Calls.mono HT5.out ?_;rintro _ w6 ⟨rfl,hb6⟩;have Yd:Hid (cd w0 w6 yb rv raw (sj 0) nv):=Jw.out.grow hb6;clear hb6 Jw HT5
 all_goals
  go_wp2_with fail
  go_loopw [5,7] (λv i wr=>∃ j:Nat,j<=ks.length/\i=.int .i64 j/\v=.string (bs (cN pre k (aE n) ts j))/\cd w0 wr yb rv raw (sj j) nv) (λ_ i _=>ks.length-(intOf i).toNat)
  case atStart=>exact⟨0,by omega,rfl,by rw[<- Y7.out],Yd.out⟩
  case round =>
   obtain⟨j,hj,rfl,rfl,Xn⟩:=hrel;obtain⟨jN,KG,q0,q1,q2⟩:=HC.out wr Xn.ob.b0;have zA:=HZ.out j;have z4:(ByteArray.mk #[32]).size=1:=rfl;have z5:(ByteArray.mk #[41]).size=1:=rfl;have SY:Hid _:=Xn;clear Xn Yd
   by_cases hlt:j<ks.length
   ·have iL:∀ tx,ts[j]?=some tx->cN pre k (aE n) ts (j+1)=cN pre k (aE n) ts j++bF k (aE n) j tx:=λtx kZ=>vA pre k (aE n) ts j tx kZ
    have SZ:Hid _:=iL
    have zB:(bs (cN pre k (aE n) ts j)++ByteArray.mk #[32]).size<=100001:=by rw[ByteArray.size_append];omega
    have zC:(bs (cN pre k (aE n) ts j)++ByteArray.mk #[32]++bs (aE n)).size<=100004:=by rw[ByteArray.size_append];omega
    have zD:(bs (cN pre k (aE n) ts j)++ByteArray.mk #[32]++bs (aE n)++ByteArray.mk #[32]).size<=100005:=by rw[ByteArray.size_append];omega
    have eN:((bl=true/\j=0)\/(bo=true/\j=1))->∀ tx,ts[j]?=some tx->bs (cN pre k (aE n) ts j)++ByteArray.mk #[32]++bs (aE n)++ByteArray.mk #[32]++bs tx=bs (cN pre k (aE n) ts (j+1)):=by
     intro mL tx kZ;rw[HL.out,HO.out,decide_eq_true_eq,decide_eq_true_eq] at mL;rw[SZ.out tx kZ,show ByteArray.mk #[32]=bs [32] from rfl,bD,bD,bD,bD];unfold bF;rw[if_pos mL];simp
    have eP:¬ ((bl=true/\j=0)\/(bo=true/\j=1))->∀ tx,ts[j]?=some tx->bs (cN pre k (aE n) ts j)++ByteArray.mk #[32]++bs tx=bs (cN pre k (aE n) ts (j+1)):=by
     intro mL tx kZ;rw[HL.out,HO.out,decide_eq_true_eq,decide_eq_true_eq] at mL;rw[SZ.out tx kZ,show ByteArray.mk #[32]=bs [32] from rfl,bD,bD];unfold bF;rw[if_neg mL];simp
    have EN:Hid _:=eN;have EP:Hid _:=eP;clear eN eP iL uT uU GG nf
    by_cases mL:(bl=true/\j=0)\/(bo=true/\j=1)
    ·have CF:Hid _:=EN.out mL
     clear EN EP SZ HL HO HZ
     have dI:(bl=true/\j=0)\/(bl=false/\bo=true/\j=1):=by
      rcases mL with h | h
      ·exact Or.inl h
      ·right
       refine⟨?_,h⟩
       cases bl with
       | false=>rfl
       | true=>exact absurd ⟨rfl,h.1⟩ Gu
     clear mL Gu
     have Y8:(bl=true/\((j:Int)==0)=true)\/(bl=false/\bo=true/\((j:Int)==1)=true):=by
      rcases dI with ⟨h1,h2⟩ | ⟨h1,h2,h3⟩
      ·exact Or.inl ⟨h1,by rw[h2];rfl⟩
      ·exact Or.inr ⟨h1,h2,by rw[h3];rfl⟩
     clear dI
     rcases Y8 with ⟨rfl,Y9⟩ | ⟨rfl,rfl,Y9⟩
     all_goals
      go_wp2_with fail
      refine Calls.mono (MD.out _) ?_;rintro _ w1 ⟨rfl,hb1⟩;have lz:Hid _:=SY.out.grow hb1;obtain⟨Ze,Zf,_,_,r2⟩:=HC.out w1 lz.out.ob.b0;obtain⟨q,tx,hq,kZ,yH,hcall⟩:=yF.out _ hlt w1 lz.out;have Ep:=CF.out tx kZ
      have zE:(bs tx).size<=100000:=by rw[bE];exact yH
      have C2:Hid _:=hcall;have NW:Hid _:=Ep;clear hcall Ep kZ CF hb1
      go_wp2_with fail
      refine Calls.mono C2.out ?_;rintro _ w2 ⟨rfl,hm2⟩;have mK:Hid _:=hm2;clear hm2 C2
      go_wp2
      go_roundw
      case rel=>exact⟨j+1,by omega,by go_num,by rw[<- NW.out],mK.out⟩
      case measure=>simp[intOf];omega
    ·have CF:Hid _:=EP.out mL
     clear EN EP SZ HL HO HZ;obtain⟨q,tx,hq,kZ,yH,hcall⟩:=yF.out j hlt wr SY.out;have Ep:=CF.out tx kZ
     have zE:(bs tx).size<=100000:=by rw[bE];exact yH
     have C2:Hid _:=hcall;have NW:Hid _:=Ep
     have kJ:¬ (bl=true/\j=0):=λh=>mL (Or.inl h)
     have hno:¬ (bo=true/\j=1):=λh=>mL (Or.inr h)
     clear hcall Ep kZ CF mL
     have TL:j≠0->((j:Int)==0)=false:=λh=>by rw[beq_eq_false_iff_ne];omega
     have TM:j≠1->((j:Int)==1)=false:=λh=>by rw[beq_eq_false_iff_ne];omega
     cases bl <;> cases bo <;> first | exact absurd ⟨rfl,rfl⟩ Gu | skip
     all_goals
      clear Gu
      first
      | (have TQ:j≠0:=λh=>kJ ⟨rfl,h⟩
         have q6:=TL TQ)
      | (have Zg:j≠1:=λh=>hno ⟨rfl,h⟩
         have q6:=TM Zg)
      | skip
      clear kJ hno TL TM
      go_wp2_with fail
      refine Calls.mono C2.out ?_;rintro _ w2 ⟨rfl,hm2⟩;have mK:Hid _:=hm2;clear hm2 C2
      go_wp2
      go_roundw
      case rel=>exact⟨j+1,by omega,by go_num,by rw[<- NW.out],mK.out⟩
      case measure=>simp[intOf];omega
   ·have hjk:j=ks.length:=by omega
    subst hjk;have Qv:=SY.out;rw[kP.out] at Qv;have HMN:Hid _:=Qv
    have HFJ:Hid (bs (cN pre k (aE n) ts ks.length)++ByteArray.mk #[41]=bs T.tidy):=by rw[<- yG.out,<- bD];rfl
    clear yF HL HO HZ yG SY Qv
    go_wp2_with fail
    rw[HFJ.out];refine Calls.mono (nf.out _ HMN.out) ?_;rintro _ w8 ⟨rfl,UJ⟩;have Qa:Hid _:=UJ;clear UJ nf
    by_cases h4:k12<4
    ·have FX:=uT.out h4
     have Aa:Hid _:=FX;have UK:Hid _:=GG.out k12 w8 _ (by omega) Qa.out
     have zk:(bs (decDigits k12)).size<=2:=by rw[bE];exact iq k12 (by omega)
     have zl:(ByteArray.mk #[40,110,101,119,32,35]).size=6:=rfl;have zs:(ByteArray.mk #[32]).size=1:=rfl;have zc:(ByteArray.mk #[41]).size=1:=rfl
     have za:(ByteArray.mk #[40,110,101,119,32,35]++bs (decDigits k12)).size<=8:=by rw[ByteArray.size_append];omega
     have zb:(ByteArray.mk #[40,110,101,119,32,35]++bs (decDigits k12)++ByteArray.mk #[32]).size<=9:=by rw[ByteArray.size_append];omega
     have zd:(ByteArray.mk #[40,110,101,119,32,35]++bs (decDigits k12)++ByteArray.mk #[32]++bs T.tidy).size<=100009:=by rw[ByteArray.size_append];omega
     clear FX uT uU GG
     go_wp2_with fail
     refine Calls.mono UK.out ?_;rintro _ w9 ⟨rfl,MN⟩;have QN:Hid _:=MN;clear MN UK
     go_wp2
     go_ret
     exact⟨by rw[Aa.out];rfl,Qa.out.grow QN.out⟩
    ·have FX:=uU.out h4
     have Ab:Hid _:=FX;clear FX uT uU GG
     go_wp2
     go_ret
     exact⟨by rw[Ab.out];rfl,Qa.out⟩
def xw (k:Nat):List KE->Nat->List PT × Nat
 | [],m=>([],m)
 | x::r,m=>((cB k x m).1::(xw k r (cB k x m).2).1,(xw k r (cB k x m).2).2)
theorem Qd (k:Nat):∀ (ks:List KE) (m:Nat) (j:Nat) (h:j<ks.length),(xw k ks m).1[j]?=some (cB k ks[j] (xw k (ks.take j) m).2).1/\(xw k (ks.take (j+1)) m).2=(cB k ks[j] (xw k (ks.take j) m).2).2
 | [],_,_,h=>by simp at h
 | x::r,m,0,_=>by simp[xw]
 | x::r,m,j+1,h=>by
  obtain⟨h1,h2⟩:=Qd k r (cB k x m).2 j (by simpa using h);simp only[xw,List.getElem?_cons_succ,List.take_succ_cons,List.getElem_cons_succ];exact⟨h1,h2⟩
theorem Ko (k:Nat):∀ (ks:List KE) (m:Nat),(xw k ks m).1.length=ks.length
 | [],_=>rfl
 | x::r,m=>by simp[xw,Ko k r]
theorem Ac (k:Nat):∀ (ks:List KE) (m:Nat),m<=(xw k ks m).2
 | [],_=>Nat.le_refl _
 | x::r,m=>by
  have:=mO k x m;have:=Ac k r (cB k x m).2;simp only[xw];omega
theorem FY (k:Nat):∀ (ks:List KE) (m:Nat) (j:Nat),(xw k (ks.take j) m).2<=(xw k ks m).2
 | [],_,_=>by simp
 | x::r,m,0=>Ac k (x::r) m
 | x::r,m,j+1=>by simp only[List.take_succ_cons,xw];exact FY k r _ j
theorem tA (k m:Nat) (e:PT):(m=k->ByteArray.mk #[40,110,101,119,32,35,48,32]++bs e.tidy++ByteArray.mk #[41]=bs (wT k m e).tidy)/\(m≠k->bs e.tidy=bs (wT k m e).tidy)/\e.tidy.length<=(wT k m e).tidy.length:=by
 unfold wT;refine⟨λh=>?_,λh=>?_,?_⟩
 ·rw[if_pos h,show ByteArray.mk #[40,110,101,119,32,35,48,32]=bs [40,110,101,119,32,35,48,32] from rfl,show ByteArray.mk #[41]=bs [41] from rfl,bD,bD]
  congr 1
  have hd:decDigits 0=[48]:=by rw[decDigits];rfl
  simp[PT.tidy,bT,bh,bF,dn,Kw.bytes,Au,hd]
 ·rw[if_neg h]
 ·split
  ·simp[PT.tidy,bT,bh,bF];omega
  ·exact Nat.le_refl _
def Qe (k:Nat) (x:KE):Prop:=∀ (w0 w:World) (yb p:Nat) (rv nv:Value) (raw:List Int) (s:fC),cd w0 w yb rv raw s nv->eD w0 x p->(cB k x s.at_).1.tidy.length<=100000->(cB k x s.at_).2<=1000000->(∀ W,Below w0.heap.size w0 W->pP W) ->
 Calls Tryz.prog 20 #[.pointer (some ⟨p,0,none⟩),.pointer (some ⟨yb,0,none⟩),.int .i64 k] w λe w'=>e=.returned (.string (bs (cB k x s.at_).1.tidy))/\cd w0 w' yb rv raw { s with at_:=(cB k x s.at_).2 } nv
theorem IX {w0 w:World} {yb:Nat} {rv nv:Value} {raw:List Int} {s:fC} (h:cd w0 w yb rv raw s nv):cd w0 (w.setCell ⟨yb,1,none⟩ (.int .i64 ((s.at_:Int)+1))) yb rv raw { s with at_:=s.at_+1 } nv :=
 ⟨h.r,h.ob.set 1 (.int .i64 ((s.at_:Int)+1)) (cs':=fq rv { s with at_:=s.at_+1 } nv) (by simp[fq])⟩
theorem S5 (k n:Nat) (hn:n<=9999):Qe k (.num n):=by
 intro w0 w yb p rv nv raw s hmk hx hlen hat hit;have hx':w0.heap[p]?=some (.cells (pF [] n (.slice none 0 0)) 59 (0,0)):=hx;have nV:=af hmk.ob.y
 have y1:w.cell? ⟨yb,1,none⟩=some (.int .i64 s.at_):=by rw[aa hmk.ob.y];rfl
 have f1:w.frozen? ⟨yb,1,none⟩=false:=ag hmk.ob.y 1;have jD:=IX hmk;obtain⟨W1,hW1⟩:∃ W1,W1=w.setCell ⟨yb,1,none⟩ (.int .i64 ((s.at_:Int)+1)):=⟨_,rfl⟩;rw[<- hW1] at jD;have hx2:W1.heap[p]?=some (.cells (pF [] n (.slice none 0 0)) 59 (0,0)):=(jD.ob.b0.block p (af hx')).trans hx';have hp:=af hx2
 have x0:W1.cell? ⟨p,0,none⟩=some (.string ⟨#[]⟩):=by rw[aa hx2];rfl
 have x1:W1.cell? ⟨p,1,none⟩=some (.int .i64 n):=by rw[aa hx2];rfl
 simp only[cB] at hlen hat ⊢;obtain⟨T,hT⟩:∃ T,T=(PT.num 0 (decDigits n)):=⟨_,rfl⟩
 have P9:T.tidy=decDigits n:=by rw[hT];rfl
 rw[<- hT] at hlen ⊢;obtain⟨f2,f3,f4⟩:=tA k s.at_ T;have uT:Hid _:=f2;have uU:Hid _:=f3;have lz:Hid _:=jD
 have zt:(bs T.tidy).size<=100000:=by rw[bE];omega
 have LX:Hid _:=P9;have SX:Hid _:=uL hit n hn jD;have JR:Hid _:=hW1;obtain⟨m,hm⟩:∃ m,m=s.at_:=⟨_,rfl⟩;rw[<- hm] at y1 JR hat uT uU ⊢;have Gi:Hid _:=hm;clear hx hx' hx2 hmk hlen hit hT P9 f2 f3 f4 jD hW1 hm
 go_enter Tryz.func20,Tryz.ntmps20
 go_upto_region 3 with fail
 rw[<- JR.out];clear y1 f1 JR
 go_wp2_with fail
 refine Calls.mono SX.out ?_;rintro _ w2 ⟨rfl,hb2⟩;have mK:Hid _:=lz.out.grow hb2;clear hb2 lz SX;rw[<- LX.out];clear LX
 by_cases h4:m=k
 ·have Aa:Hid _:=uT.out h4
  have q4:((m:Int)==(k:Int))=true:=by rw[h4];simp
  have zl:(ByteArray.mk #[40,110,101,119,32,35,48,32]).size=8:=rfl;have zc:(ByteArray.mk #[41]).size=1:=rfl
  have za:(ByteArray.mk #[40,110,101,119,32,35,48,32]++bs T.tidy).size<=100008:=by rw[ByteArray.size_append];omega
  clear h4 uT uU
  go_wp2
  go_ret
  exact⟨by rw[Aa.out];rfl,by rw[Gi.out];exact mK.out⟩
 ·have Ab:Hid _:=uU.out h4
  have q4:((m:Int)==(k:Int))=false:=by rw[beq_eq_false_iff_ne];omega
  clear h4 uT uU
  go_wp2
  go_ret
  exact⟨by rw[Ab.out];rfl,by rw[Gi.out];exact mK.out⟩
theorem S9 (k n:Nat) (hn:n<=1000):Qe k (.var n):=by
 intro w0 w yb p rv nv raw s hmk hx hlen hat hit;have hx':w0.heap[p]?=some (.cells (pF [120] n (.slice none 0 0)) 59 (0,0)):=hx;have nV:=af hmk.ob.y
 have y1:w.cell? ⟨yb,1,none⟩=some (.int .i64 s.at_):=by rw[aa hmk.ob.y];rfl
 have f1:w.frozen? ⟨yb,1,none⟩=false:=ag hmk.ob.y 1;have jD:=IX hmk;obtain⟨W1,hW1⟩:∃ W1,W1=w.setCell ⟨yb,1,none⟩ (.int .i64 ((s.at_:Int)+1)):=⟨_,rfl⟩;rw[<- hW1] at jD;have hx2:W1.heap[p]?=some (.cells (pF [120] n (.slice none 0 0)) 59 (0,0)):=(jD.ob.b0.block p (af hx')).trans hx';have hp:=af hx2
 have x0:W1.cell? ⟨p,0,none⟩=some (.string ⟨#[120]⟩):=by rw[aa hx2];rfl
 have x1:W1.cell? ⟨p,1,none⟩=some (.int .i64 n):=by rw[aa hx2];rfl
 simp only[cB] at hlen hat ⊢;obtain⟨T,hT⟩:∃ T,T=(PT.name 0 (aE n)):=⟨_,rfl⟩
 have P9:T.tidy=aE n:=by rw[hT];rfl
 rw[<- hT] at hlen ⊢;obtain⟨f2,f3,f4⟩:=tA k s.at_ T;have uT:Hid _:=f2;have uU:Hid _:=f3;have lz:Hid _:=jD
 have zt:(bs T.tidy).size<=100000:=by rw[bE];omega
 have LX:Hid _:=P9;have SX:Hid _:=lB n hn W1;have JR:Hid _:=hW1;obtain⟨m,hm⟩:∃ m,m=s.at_:=⟨_,rfl⟩;rw[<- hm] at y1 JR hat uT uU ⊢;have Gi:Hid _:=hm;clear hx hx' hx2 hmk hlen hit hT P9 f2 f3 f4 jD hW1 hm
 go_enter Tryz.func20,Tryz.ntmps20
 go_upto_region 3 with fail
 rw[<- JR.out];clear y1 f1 JR
 go_wp2_with fail
 refine Calls.mono SX.out ?_;rintro _ w2 ⟨rfl,hb2⟩;have mK:Hid _:=lz.out.grow hb2;clear hb2 lz SX;rw[<- LX.out];clear LX
 by_cases h4:m=k
 ·have Aa:Hid _:=uT.out h4
  have q4:((m:Int)==(k:Int))=true:=by rw[h4];simp
  have zl:(ByteArray.mk #[40,110,101,119,32,35,48,32]).size=8:=rfl;have zc:(ByteArray.mk #[41]).size=1:=rfl
  have za:(ByteArray.mk #[40,110,101,119,32,35,48,32]++bs T.tidy).size<=100008:=by rw[ByteArray.size_append];omega
  clear h4 uT uU
  go_wp2
  go_ret
  exact⟨by rw[Aa.out];rfl,by rw[Gi.out];exact mK.out⟩
 ·have Ab:Hid _:=uU.out h4
  have q4:((m:Int)==(k:Int))=false:=by rw[beq_eq_false_iff_ne];omega
  clear h4 uT uU
  go_wp2
  go_ret
  exact⟨by rw[Ab.out];rfl,by rw[Gi.out];exact mK.out⟩
end Go.Proofs.YtpicaknklgccoabGreatDoor
