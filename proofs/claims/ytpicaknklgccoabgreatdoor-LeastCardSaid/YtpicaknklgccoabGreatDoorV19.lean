import Derived.Test.YtpicaknklgccoabGreatDoorV18
set_option maxHeartbeats 4000000
set_option maxRecDepth 100000
namespace Go.Proofs.YtpicaknklgccoabGreatDoor
inductive KE where
 | num (n:Nat)
 | var (n:Nat)
 | n1 (k:Kw) (a:KE)
 | n2 (k:Kw) (n:Nat) (a b:KE)
 | n3 (k:Kw) (n:Nat) (a b c:KE)
def jn (c:Int) (n:Nat):Nat:=(Int.tmod (if c<0 then -(c+1) else c) n).toNat
theorem pY (c:Int) (n:Nat) (h:0<n):jn c n<n:=by
 unfold jn
 have h1:0<=(if c<0 then -(c+1) else c):=by split <;> omega
 have:=Int.tmod_lt_of_pos (if c<0 then -(c+1) else c) (show (0:Int)<n by omega);have:=Int.tmod_nonneg (n:Int) h1;omega
structure fC where
 at_:Nat
 left:Nat
 vars:List Nat
def aT (raw:List Int) (n:Nat) (s:fC):Nat × fC :=
 if raw=[] then (0,s) else (jn (raw.getD (s.at_ % raw.length) 0) n,{ s with at_:=s.at_+1 })
theorem bZ (raw:List Int) (n:Nat) (s:fC) (h:0<n):(aT raw n s).1<n:=by
 unfold aT;split
 ·exact h
 ·exact pY _ n h
theorem bI (raw:List Int) (n:Nat) (s:fC):(aT raw n s).2.left=s.left/\(aT raw n s).2.vars=s.vars/\s.at_<=(aT raw n s).2.at_/\(aT raw n s).2.at_<=s.at_+1:=by
 unfold aT;split
 ·exact⟨rfl,rfl,Nat.le_refl _,Nat.le_succ _⟩
 ·exact⟨rfl,rfl,Nat.le_succ _,Nat.le_refl _⟩
def idxs (vars:List Nat) (t n:Nat):List Nat:=(List.range n).filter (λi=>vars.getD i 9==t)
def kM (vars:List Nat) (t k:Nat):Option KE :=
 if (idxs vars t vars.length)=[] then none else some (.var ((idxs vars t vars.length).getD (k % (idxs vars t vars.length).length) 0))
def fT (t:Nat):Nat:=if t=2\/t=4 then 1 else 0
def sT (t:Nat):Nat:=if t=3\/t=4 then 1 else 0
def fI (t:Nat):Int:=if t=0 then -1 else fT t
def sI (t:Nat):Int:=if t=0 then -1 else sT t
def ed (raw:List Int):Nat->Nat->fC->KE × fC
 | 0,_,s=>(.num 0,s)
 | f+1,t,s =>
  let x:=aT raw 7 s
  match (if 1<x.1 then kM x.2.vars t x.1 else none) with
  | some y=>(y,x.2)
  | none =>
   if t=0 then (.num (aT raw 60 x.2).1,(aT raw 60 x.2).2)
   else
    let a:=ed raw f (fT t) x.2
    let b:=ed raw f (sT t) a.2
    (.n2 .pair 0 a.1 b.1,b.2)
def jo (t k:Nat):Nat->Nat->Option (Kw × Nat)
 | _,0=>none
 | i,n+1 =>
  if (i+k) / 5 % 2=1 then (if sI ((i+k) % 5)=t then some (.snd,(i+k) % 5) else jo t k (i+1) n)
  else (if fI ((i+k) % 5)=t then some (.fst,(i+k) % 5) else jo t k (i+1) n)
def Q8 (n:Nat):Kw:=if n=0 then .add else if n=1 then .sub else .less
def fJ (g:Nat->fC->KE × fC) (v t:Nat) (s:fC):KE × fC :=
 let x:=g t { s with vars:=s.vars++[v] }
 (x.1,{ x.2 with vars:=x.2.vars.take s.vars.length })
def aW (raw:List Int):Nat->Nat->fC->KE × fC
 | 0,t,s=>ed raw 3 t s
 | f+1,t,s =>
  if s.left=0 then ed raw 3 t s else
  let x:=aT raw 9 { s with left:=s.left-1 }
  if x.1=0 then
   let v:=aT raw 5 x.2
   let a:=aW raw f v.1 v.2
   let b:=fJ (aW raw f) v.1 t a.2
   (.n2 .aP b.2.vars.length a.1 b.1,b.2)
  else if x.1=1 then
   let a:=aW raw f 0 x.2
   let b:=aW raw f t a.2
   let c:=aW raw f t b.2
   (.n3 .di 0 a.1 b.1 c.1,c.2)
  else if x.1=2\/x.1=3 then
   let k:=aT raw 4 x.2
   match jo t k.1 0 10 with
   | some q=>(.n1 q.1 (aW raw f q.2 k.2).1,(aW raw f q.2 k.2).2)
   | none=>ed raw 3 t k.2
  else if x.1=4 then
   let n:=aT raw 4 x.2
   let a:=aW raw f t n.2
   let b:=fJ (aW raw f) t t a.2
   (.n3 .loop b.2.vars.length (.num n.1) a.1 b.1,b.2)
  else if x.1<8 then
   if t=0 then
    let o:=aT raw 3 x.2
    let a:=aW raw f 0 o.2
    let b:=aW raw f 0 a.2
    (.n2 (Q8 o.1) 0 a.1 b.1,b.2)
   else
    let a:=aW raw f (fT t) x.2
    let b:=aW raw f (sT t) a.2
    (.n2 .pair 0 a.1 b.1,b.2)
  else ed raw 3 t x.2
def sR (t:Int) (raw:List Int):KE:=(aW raw 25 (jn t 5) ⟨0,24,[]⟩).1
inductive KT:List Nat->KE->Nat->Prop
 | num {vs:List Nat} {n:Nat} (h:n<=59):KT vs (.num n) 0
 | var {vs:List Nat} {n t:Nat} (h:vs[n]?=some t):KT vs (.var n) t
 | aP {vs:List Nat} {a b:KE} {v t:Nat} (hv:v<5) (hl:vs.length<100) (ha:KT vs a v) (hb:KT (vs++[v]) b t):KT vs (.n2 .aP vs.length a b) t
 | di {vs:List Nat} {a b c:KE} {t:Nat} (ha:KT vs a 0) (hb:KT vs b t) (hc:KT vs c t):KT vs (.n3 .di 0 a b c) t
 | loop {vs:List Nat} {a b c:KE} {t:Nat} (hl:vs.length<100) (ha:KT vs a 0) (hb:KT vs b t) (hc:KT (vs++[t]) c t):KT vs (.n3 .loop vs.length a b c) t
 | pair {vs:List Nat} {a b:KE} {t:Nat} (h0:t≠0) (ht:t<5) (ha:KT vs a (fT t)) (hb:KT vs b (sT t)):KT vs (.n2 .pair 0 a b) t
 | fst {vs:List Nat} {a:KE} {p:Nat} (h0:p≠0) (hp:p<5) (ha:KT vs a p):KT vs (.n1 .fst a) (fT p)
 | snd {vs:List Nat} {a:KE} {p:Nat} (h0:p≠0) (hp:p<5) (ha:KT vs a p):KT vs (.n1 .snd a) (sT p)
 | two {vs:List Nat} {k:Kw} {a b:KE} (hk:k=.add\/k=.sub\/k=.less) (ha:KT vs a 0) (hb:KT vs b 0):KT vs (.n2 k 0 a b) 0
def KE.bz:KE->Nat
 | .num _=>0
 | .var _=>0
 | .n1 _ a=>a.bz
 | .n2 k _ a b=>(if k=.pair then 1 else 0)+a.bz+b.bz
 | .n3 _ _ a b c=>a.bz+b.bz+c.bz
def KE.cnt:KE->Nat
 | .num _=>1
 | .var _=>1
 | .n1 _ a=>1+a.cnt
 | .n2 _ _ a b=>1+a.cnt+b.cnt
 | .n3 _ _ a b c=>1+a.cnt+b.cnt+c.cnt
def KE.len:KE->Nat
 | .num _=>3
 | .var _=>3
 | .n1 _ a=>6+a.len
 | .n2 k _ a b=>(if k=.aP then 11 else 8)+a.len+b.len
 | .n3 k _ a b c=>(if k=.loop then 13 else 7)+a.len+b.len+c.len
def oY (t:Nat):Nat:=if t=0 then 3 else if t=1 then 14 else if t=4 then 36 else 25
def Gq (t:Nat):Nat:=if t=0 then 0 else if t=1 then 1 else if t=4 then 3 else 2
def oZ (t:Nat):Nat:=if t=0 then 1 else if t=1 then 3 else if t=4 then 7 else 5
def Cw (t:Nat):Nat:=if t=0 then 2 else if t=1 then 5 else if t=4 then 11 else 8
structure MkO (t:Nat) (s:fC) (y:KE × fC):Prop where
 ty:KT s.vars y.1 t
 vars:y.2.vars=s.vars
 left:y.2.left<=s.left
 len:y.1.len+53*y.2.left<=oY t+53*s.left
 bz:y.1.bz+3*y.2.left<=Gq t+3*s.left
 cnt:y.1.cnt+9*y.2.left<=oZ t+9*s.left
 at_:y.2.at_+40*y.2.left<=s.at_+Cw t+40*s.left
 at':s.at_<=y.2.at_
theorem KV {vars:List Nat} {t k:Nat} {y:KE} (h:kM vars t k=some y):∃ n,y=.var n/\vars[n]?=some t/\n<vars.length:=by
 unfold kM at h
 split at h
 ·cases h
 ·rename_i hne
  simp only[Option.some.injEq] at h;have hpos:0<(idxs vars t vars.length).length:=List.length_pos_iff.2 hne;have hlt:=Nat.mod_lt k hpos;refine⟨_,h.symm,?_⟩
  have hmem:(idxs vars t vars.length).getD (k % (idxs vars t vars.length).length) 0∈idxs vars t vars.length:=by
   rw[List.getD_eq_getElem?_getD,List.getElem?_eq_getElem hlt,Option.getD_some];exact List.getElem_mem hlt
  generalize (idxs vars t vars.length).getD (k % (idxs vars t vars.length).length) 0=n at hmem;unfold idxs at hmem;rw[List.mem_filter,List.mem_range] at hmem;have e:=hmem.2;rw[List.getD_eq_getElem?_getD,List.getElem?_eq_getElem hmem.1,Option.getD_some] at e;rw[List.getElem?_eq_getElem hmem.1];exact⟨by simpa using e,hmem.1⟩
theorem NB {t:Nat}:3<=oY t/\1<=oZ t/\2<=Cw t:=by
 unfold oY oZ Cw
 by_cases h0:t=0
 ·subst h0;decide
 ·by_cases h1:t=1
  ·subst h1;decide
  ·by_cases h4:t=4
   ·subst h4;decide
   ·simp[h0,h1,h4]
theorem yj {t:Nat} (ht:t<5) (h0:t≠0):8+oY (fT t)+oY (sT t)=oY t/\1+Gq (fT t)+Gq (sT t)=Gq t/\1+oZ (fT t)+oZ (sT t)=oZ t/\1+Cw (fT t)+Cw (sT t)=Cw t/\fT t<5/\sT t<5:=by
 have h:∀ t<5,t≠0->(8+oY (fT t)+oY (sT t)=oY t/\1+Gq (fT t)+Gq (sT t)=Gq t/\1+oZ (fT t)+oZ (sT t)=oZ t/\1+Cw (fT t)+Cw (sT t)=Cw t/\fT t<5/\sT t<5):=by decide
 exact h t ht h0
def dep (t:Nat):Nat:=if t=0 then 0 else if t=1 then 1 else 2
theorem vo {t:Nat} (ht:t<5) (h0:t≠0):dep (fT t)<dep t/\dep (sT t)<dep t:=by
 have h:∀ t<5,t≠0->(dep (fT t)<dep t/\dep (sT t)<dep t):=by decide
 exact h t ht h0
theorem lQ (raw:List Int):∀ (f t:Nat) (s:fC),t<5->dep t<f->MkO t s (ed raw f t s)
 | 0,_,_,_,h=>by omega
 | f+1,t,s,ht,hd=>by
  simp only[ed];have hn:=bI raw 7 s;generalize aT raw 7 s=x at hn;have hW:=@NB t
  split
  ·rename_i y hy
   split at hy
   ·obtain⟨n,rfl,h1,_⟩:=KV hy
    rw[hn.2.1] at h1
    refine⟨.var h1,hn.2.1,by simp only;omega,?_,?_,?_,?_,?_⟩ <;> simp only[KE.len,KE.bz,KE.cnt,hn.1] <;> omega
   ·cases hy
  ·split
   ·rename_i h0
    subst h0;have hm:=bI raw 60 x.2;have hl:=bZ raw 60 x.2 (by omega);generalize aT raw 60 x.2=z at hm hl
    refine⟨.num (by omega),by rw[hm.2.1,hn.2.1],by simp only;omega,?_,?_,?_,?_,?_⟩ <;> simp only[KE.len,KE.bz,KE.cnt,hm.1,hn.1] <;> omega
   ·rename_i h0
    have hp:=yj ht h0;have hdp:=vo ht h0;have ha:=lQ raw f (fT t) x.2 hp.2.2.2.2.1 (by omega);generalize ed raw f (fT t) x.2=a at ha;have hb:=lQ raw f (sT t) a.2 hp.2.2.2.2.2 (by omega);generalize ed raw f (sT t) a.2=b at hb;obtain⟨a1,a2,a3,a4,a5,a6,a7,a8⟩:=ha;obtain⟨b1,b2,b3,b4,b5,b6,b7,b8⟩:=hb;rw[a2,hn.2.1] at b1 b2;rw[hn.2.1] at a1
    refine⟨.pair h0 ht a1 b1,b2,by simp only;omega,?_,?_,?_,?_,?_⟩ <;> simp only[KE.len,KE.bz,KE.cnt,if_true] <;> first | omega | (rw[if_neg (by decide)];omega)
theorem Ea:∀ t<5,∀ k<4,∀ q,jo t k 0 10=some q->q.2≠0/\q.2<5/\((q.1=.fst/\fT q.2=t)\/(q.1=.snd/\sT q.2=t))/\oY q.2<=oY t+40/\Gq q.2<=Gq t+3/\oZ q.2<=oZ t+7/\Cw q.2<=Cw t+10:=by
 have h:∀ t<5,∀ k<4,(jo t k 0 10).all (λq=>decide (q.2≠0/\q.2<5/\((q.1=.fst/\fT q.2=t)\/(q.1=.snd/\sT q.2=t))/\oY q.2<=oY t+40/\Gq q.2<=Gq t+3/\oZ q.2<=oZ t+7/\Cw q.2<=Cw t+10))=true:=by decide
 intro t ht k hk q hq;have:=h t ht k hk;rw[hq] at this
 simpa only[Option.all_some,decide_eq_true_eq] using this
theorem wJ {t:Nat}:oY t<=36/\Gq t<=3/\oZ t<=7/\Cw t<=11:=by
 unfold oY Gq oZ Cw
 by_cases h0:t=0
 ·subst h0;decide
 ·by_cases h1:t=1
  ·subst h1;decide
  ·by_cases h4:t=4
   ·subst h4;decide
   ·simp[h0,h1,h4]
theorem tV {g:Nat->fC->KE × fC} {v t:Nat} {s:fC} (h:MkO t { s with vars:=s.vars++[v] } (g t { s with vars:=s.vars++[v] })) :
  KT (s.vars++[v]) (fJ g v t s).1 t/\(fJ g v t s).2.vars=s.vars/\(fJ g v t s).2.left<=s.left/\(fJ g v t s).1.len+53*(fJ g v t s).2.left<=oY t+53*s.left/\(fJ g v t s).1.bz+3*(fJ g v t s).2.left<=Gq t+3*s.left/\(fJ g v t s).1.cnt+9*(fJ g v t s).2.left<=oZ t+9*s.left/\(fJ g v t s).2.at_+40*(fJ g v t s).2.left<=s.at_+Cw t+40*s.left/\s.at_<=(fJ g v t s).2.at_:=by
 unfold fJ;refine⟨h.ty,?_,h.left,h.len,h.bz,h.cnt,h.at_,h.at'⟩;simp only[h.vars,List.take_left]
theorem cD (raw:List Int):∀ (f t:Nat) (s:fC),t<5->s.left<f->s.vars.length+s.left<=100->MkO t s (aW raw f t s)
 | 0,_,_,_,h,_=>by omega
 | f+1,t,s,ht,hf,hv=>by
  simp only[aW];have hW:=@wJ t;have hWp:=@NB t
  split
  ·exact lQ raw 3 t s ht (by unfold dep;split <;> (try split) <;> omega)
  rename_i Vz
  have hn:=bI raw 9 { s with left:=s.left-1 };generalize aT raw 9 { s with left:=s.left-1 }=x at hn;simp only at hn;obtain⟨n1,n2,n3,n4⟩:=hn
  split
  ·have hm:=bI raw 5 x.2
   have Ar:=bZ raw 5 x.2 (by omega);generalize aT raw 5 x.2=v at hm Ar;obtain⟨m1,m2,m3,m4⟩:=hm;have ha:=cD raw f v.1 v.2 Ar (by omega) (by rw[m2,n2];omega);generalize aW raw f v.1 v.2=a at ha;obtain⟨a1,a2,a3,a4,a5,a6,a7,a8⟩:=ha;have hb:=tV (v:=v.1) (cD raw f t { a.2 with vars:=a.2.vars++[v.1] } ht (by simp only;omega) (by simp only[List.length_append,List.length_singleton,a2,m2,n2];omega));generalize fJ (aW raw f) v.1 t a.2=b at hb;obtain⟨b1,b2,b3,b4,b5,b6,b7,b8⟩:=hb;rw[a2,m2,n2] at b1 b2;rw[m2,n2] at a1;have hWv:=@wJ v.1;rw[b2]
   refine⟨.aP Ar (by omega) a1 b1,b2,by simp only;omega,?_,?_,?_,?_,?_⟩ <;> simp only[KE.len,KE.bz,KE.cnt,if_true] <;> first | omega | (rw[if_neg (by decide)];omega)
  split
  ·have ha:=cD raw f 0 x.2 (by omega) (by omega) (by rw[n2];omega)
   generalize aW raw f 0 x.2=a at ha;obtain⟨a1,a2,a3,a4,a5,a6,a7,a8⟩:=ha;have hb:=cD raw f t a.2 ht (by omega) (by rw[a2,n2];omega);generalize aW raw f t a.2=b at hb;obtain⟨b1,b2,b3,b4,b5,b6,b7,b8⟩:=hb;have hc:=cD raw f t b.2 ht (by omega) (by rw[b2,a2,n2];omega);generalize aW raw f t b.2=c at hc;obtain⟨c1,c2,c3,c4,c5,c6,c7,c8⟩:=hc;rw[b2,a2,n2] at c1 c2;rw[a2,n2] at b1;rw[n2] at a1
   have e0:oY 0=3/\Gq 0=0/\oZ 0=1/\Cw 0=2:=by decide
   refine⟨.di a1 b1 c1,c2,by simp only;omega,?_,?_,?_,?_,?_⟩ <;> simp only[KE.len,KE.bz,KE.cnt] <;> first | omega | (rw[if_neg (by decide)];omega)
  split
  ·have hm:=bI raw 4 x.2
   have tW:=bZ raw 4 x.2 (by omega);generalize aT raw 4 x.2=k at hm tW;obtain⟨m1,m2,m3,m4⟩:=hm
   split
   ·rename_i q hq
    have hq':=Ea t ht k.1 tW q hq;have ha:=cD raw f q.2 k.2 hq'.2.1 (by omega) (by rw[m2,n2];omega);generalize aW raw f q.2 k.2=a at ha;obtain⟨a1,a2,a3,a4,a5,a6,a7,a8⟩:=ha;rw[m2,n2] at a1 a2
    have hty:KT s.vars (.n1 q.1 a.1) t:=by
     rcases hq'.2.2.1 with ⟨e1,e2⟩ | ⟨e1,e2⟩
     ·rw[e1,<- e2];exact .fst hq'.1 hq'.2.1 a1
     ·rw[e1,<- e2];exact .snd hq'.1 hq'.2.1 a1
    refine⟨hty,a2,by simp only;omega,?_,?_,?_,?_,?_⟩ <;> simp only[KE.len,KE.bz,KE.cnt] <;> omega
   ·have ha:=lQ raw 3 t k.2 ht (by unfold dep;split <;> (try split) <;> omega)
    generalize ed raw 3 t k.2=a at ha;obtain⟨a1,a2,a3,a4,a5,a6,a7,a8⟩:=ha;rw[m2,n2] at a1 a2;exact⟨a1,a2,by omega,by omega,by omega,by omega,by omega,by omega⟩
  split
  ·have hm:=bI raw 4 x.2
   have tW:=bZ raw 4 x.2 (by omega);generalize aT raw 4 x.2=n at hm tW;obtain⟨m1,m2,m3,m4⟩:=hm;have ha:=cD raw f t n.2 ht (by omega) (by rw[m2,n2];omega);generalize aW raw f t n.2=a at ha;obtain⟨a1,a2,a3,a4,a5,a6,a7,a8⟩:=ha;have hb:=tV (v:=t) (cD raw f t { a.2 with vars:=a.2.vars++[t] } ht (by simp only;omega) (by simp only[List.length_append,List.length_singleton,a2,m2,n2];omega));generalize fJ (aW raw f) t t a.2=b at hb;obtain⟨b1,b2,b3,b4,b5,b6,b7,b8⟩:=hb;rw[a2,m2,n2] at b1 b2;rw[m2,n2] at a1;rw[b2]
   refine⟨.loop (by omega) (.num (by omega)) a1 b1,b2,by simp only;omega,?_,?_,?_,?_,?_⟩ <;> simp only[KE.len,KE.bz,KE.cnt,if_true] <;> omega
  split
  ·split
   ·rename_i h0
    subst h0;have hm:=bI raw 3 x.2;generalize aT raw 3 x.2=o at hm;obtain⟨m1,m2,m3,m4⟩:=hm;have ha:=cD raw f 0 o.2 ht (by omega) (by rw[m2,n2];omega);generalize aW raw f 0 o.2=a at ha;obtain⟨a1,a2,a3,a4,a5,a6,a7,a8⟩:=ha;have hb:=cD raw f 0 a.2 ht (by omega) (by rw[a2,m2,n2];omega);generalize aW raw f 0 a.2=b at hb;obtain⟨b1,b2,b3,b4,b5,b6,b7,b8⟩:=hb;rw[a2,m2,n2] at b1 b2;rw[m2,n2] at a1
    have hk:Q8 o.1=.add\/Q8 o.1=.sub\/Q8 o.1=.less:=by unfold Q8;split <;> (try split) <;> simp
    have hk1:Q8 o.1≠.aP/\Q8 o.1≠.pair:=by rcases hk with h | h | h <;> rw[h] <;> decide
    have e0:oY 0=3/\Gq 0=0/\oZ 0=1/\Cw 0=2:=by decide
    refine⟨.two hk a1 b1,b2,by simp only;omega,?_,?_,?_,?_,?_⟩ <;> simp only[KE.len,KE.bz,KE.cnt,if_neg hk1.1,if_neg hk1.2] <;> omega
   ·rename_i h0
    have hp:=yj ht h0;have ha:=cD raw f (fT t) x.2 hp.2.2.2.2.1 (by omega) (by rw[n2];omega);generalize aW raw f (fT t) x.2=a at ha;obtain⟨a1,a2,a3,a4,a5,a6,a7,a8⟩:=ha;have hb:=cD raw f (sT t) a.2 hp.2.2.2.2.2 (by omega) (by rw[a2,n2];omega);generalize aW raw f (sT t) a.2=b at hb;obtain⟨b1,b2,b3,b4,b5,b6,b7,b8⟩:=hb;rw[a2,n2] at b1 b2;rw[n2] at a1
    refine⟨.pair h0 ht a1 b1,b2,by simp only;omega,?_,?_,?_,?_,?_⟩ <;> simp only[KE.len,KE.bz,KE.cnt,if_true] <;> first | omega | (rw[if_neg (by decide)];omega)
  ·have ha:=lQ raw 3 t x.2 ht (by unfold dep;split <;> (try split) <;> omega)
   generalize ed raw 3 t x.2=a at ha;obtain⟨a1,a2,a3,a4,a5,a6,a7,a8⟩:=ha;rw[n2] at a1 a2;exact⟨a1,a2,by omega,by omega,by omega,by omega,by omega,by omega⟩
theorem NC (t:Int) (raw:List Int):KT [] (sR t raw) (jn t 5)/\(sR t raw).len<=1308/\(sR t raw).bz<=75/\(sR t raw).cnt<=223:=by
 have h:=cD raw 25 (jn t 5) ⟨0,24,[]⟩ (pY t 5 (by omega)) (by simp) (by simp);have hW:=@wJ (jn t 5);have h2:=h.len;have h3:=h.bz;have h4:=h.cnt;simp only at h2 h3 h4;exact⟨h.ty,by show (aW raw 25 (jn t 5) ⟨0,24,[]⟩).1.len<=_;omega,by show (aW raw 25 (jn t 5) ⟨0,24,[]⟩).1.bz<=_;omega,by show (aW raw 25 (jn t 5) ⟨0,24,[]⟩).1.cnt<=_;omega⟩
open Go.RowKit
structure du (w w':World) (yb:Nat) (nv bJ:Value):Prop where
 size:w.heap.size<=w'.heap.size
 blk:∀ k,k<w.heap.size->k≠yb->nv.ownBlock≠some k->w'.heap[k]?=w.heap[k]?
 n:∀ g,bJ.ownBlock=some g->nv.ownBlock=some g\/w.heap.size<=g
theorem du.refl (w:World) (yb:Nat) (nv:Value):du w w yb nv nv:=⟨Nat.le_refl _,λ_ _ _ _=>rfl,λ_ h=>Or.inl h⟩
theorem du.trans {w w1 w2:World} {yb:Nat} {nv sL cO:Value} (h:du w w1 yb nv sL) (h':du w1 w2 yb sL cO):du w w2 yb nv cO:=by
 refine⟨Nat.le_trans h.size h'.size,?_,?_⟩
 ·intro k hk hy hn
  rw[h'.blk k (Nat.lt_of_lt_of_le hk h.size) hy (λe=>by rcases h.n k e with e | e;exact hn e;omega)];exact h.blk k hk hy hn
 ·intro g hg
  rcases h'.n g hg with e | e
  ·exact h.n g e
  ·exact Or.inr (Nat.le_trans h.size e)
theorem du.below {w w':World} (h:Below w.heap.size w w') (yb:Nat) (nv:Value):du w w' yb nv nv:=⟨h.size,λk hk _ _=>h.block k hk,λ_ h=>Or.inl h⟩
theorem du.grown {w w':World} {yb:Nat} (h:w.grownBy w' (some yb)) (nv:Value):du w w' yb nv nv:=⟨h.size,λk hk hy _=>h.block k hk (λe=>by cases e;exact hy rfl),λ_ h=>Or.inl h⟩
theorem bg {w W:World} (h:Below w.heap.size w W) (o:Obj):Below w.heap.size w (W.alloc o):=h.alloc h.size o
theorem dx (w:World) (m:Nat):Below w.heap.size w (w.drewN m):=⟨rfl,rfl,rfl,Nat.le_refl _,λ_ _=>rfl⟩
theorem du.setAt (w:World) (yb:Nat) (nv:Value) (m o:Nat) (x:Value):du w ((w.drewN m).setCell ⟨yb,o,none⟩ x) yb nv nv:=(du.below (dx w m) _ _).trans (du.grown (ND (w.drewN m) ⟨yb,o,none⟩ _) _)
theorem du.ym (w:World) (yb:Nat) (nv:Value) (o:Nat) (x:Value):du w (w.setCell ⟨yb,o,none⟩ x) yb nv nv:=du.grown (ND w ⟨yb,o,none⟩ _) _
theorem du.NF {w w':World} {yb:Nat} {nv bJ cO:Value} (h:du w w' yb nv bJ) (e:cO.ownBlock=bJ.ownBlock):du w w' yb nv cO:=⟨h.size,h.blk,λg hg=>h.n g (by rw[<- e];exact hg)⟩
structure kN (w0 w:World) (yb:Nat) (cs:Array Value) (T:TypeId) (nv:Value) (E:TypeId) (xs:List Value):Prop where
 b0:Below w0.heap.size w0 w
 hyb:w0.heap.size<=yb
 y:w.heap[yb]?=some (.cells cs T (0,0))
 n:w.ownsRow w0.heap.size E 1 nv xs.length xs
 ny:nv.ownBlock≠some yb
theorem kN.grow {w0 w w':World} {yb:Nat} {cs:Array Value} {T:TypeId} {nv:Value} {E:TypeId} {xs:List Value} (h:kN w0 w yb cs T nv E xs) (hb:Below w.heap.size w w'):kN w0 w' yb cs T nv E xs :=
 ⟨h.b0.trans (hb.mono h.b0.size),h.hyb,by rw[hb.block yb (af h.y)];exact h.y,aB h.n hb,h.ny⟩
theorem kN.set {w0 w:World} {yb:Nat} {cs cs':Array Value} {T:TypeId} {nv:Value} {E:TypeId} {xs:List Value} (h:kN w0 w yb cs T nv E xs) (o:Nat) (x:Value) (hx:cs.setIfInBounds o x=cs'):kN w0 (w.setCell ⟨yb,o,none⟩ x) yb cs' T nv E xs:=by
 have oth:∀ b,b≠yb->(w.setCell ⟨yb,o,none⟩ x).heap[b]?=w.heap[b]?:=λb hb=>aq _ _ (by simpa using hb)
 refine⟨h.b0.setCell (p:=⟨yb,o,none⟩) h.hyb _,h.hyb,by rw[<- hx];exact aA h.y o x,?_,h.ny⟩;exact ay h.n (λk hk=>oth k (λe=>h.ny (by rw[<- e];exact hk)))
theorem kN.push {w0 w w3 W:World} {yb:Nat} {cs:Array Value} {T:TypeId} {nv:Value} {E:TypeId} {xs:List Value} {x:Value} {g cap o:Nat} {A:Obj}
  (h:kN w0 w yb cs T nv E xs) (hg:(w.alloc A).grownBy w3 nv.ownBlock) (ho:w3.ownsRow 0 E 1 (.slice (some ⟨g,0,none⟩) (xs.length+1) cap) (xs.length+1) (xs++[x]))
  (hgg:nv.ownBlock=some g\/(w.alloc A).heap.size<=g) (hW:W=w3.setCell ⟨yb,o,none⟩ (.slice (some ⟨g,0,none⟩) (xs.length+1) cap)) :
  kN w0 W yb (cs.setIfInBounds o (.slice (some ⟨g,0,none⟩) (xs.length+1) cap)) T (.slice (some ⟨g,0,none⟩) (xs.length+1) cap) E (xs++[x])/\du w W yb nv (.slice (some ⟨g,0,none⟩) (xs.length+1) cap):=by
 have hb0:=h.b0.size;have nV:=af h.y
 have ea:(w.alloc A).heap.size=w.heap.size+1:=by simp
 have hs3:=hg.size;rw[ea] at hgg hs3
 have hsW:W.heap.size=w3.heap.size:=by rw[hW];simp[World.setCell]
 have YM:∀ g,nv.ownBlock=some g->w0.heap.size<=g/\g<w.heap.size:=λg hg=>h.n.lt g hg
 have o3:∀ b,b<w.heap.size->nv.ownBlock≠some b->w3.heap[b]?=w.heap[b]?:=by
  intro b hb hn;rw[hg.block b (by rw[ea];omega) (λe=>hn e.symm),Below.heap_alloc _ _ _ hb]
 have oW:∀ b,b<w.heap.size->b≠yb->nv.ownBlock≠some b->W.heap[b]?=w.heap[b]?:=by
  intro b hb hby hn;rw[hW,aq _ _ (by simpa using hby),o3 b hb hn]
 have TH:g≠yb:=by
  intro e
  rcases hgg with hh | hh
  ·exact h.ny (by rw[hh,e])
  ·omega
 have hgb:w0.heap.size<=g:=by
  rcases hgg with hh | hh
  ·exact (YM g hh).1
  ·omega
 have hyW:W.heap[yb]?=some (.cells (cs.setIfInBounds o (.slice (some ⟨g,0,none⟩) (xs.length+1) cap)) T (0,0)):=by
  rw[hW];refine (aA (arr:=cs) ?_ o _).trans rfl;rw[o3 yb nV h.ny];exact h.y
 refine⟨⟨?_,h.hyb,hyW,?_,?_⟩,⟨by omega,λk hk hy hn=>oW k hk hy hn,λg' hg'=>by simp only[Value.ownBlock,Option.some.injEq] at hg';subst hg';rcases hgg with e | e;exact Or.inl e;exact Or.inr (by omega)⟩⟩
 ·refine h.b0.trans ⟨?_,?_,?_,by omega,λk hk=>oW k (by omega) (by have:=h.hyb;omega) (λe=>by have:=YM k e;omega)⟩
  ·rw[hW];exact hg.os
  ·rw[hW];exact hg.tape
  ·rw[hW];exact hg.output
 ·have e1:(xs++[x]).length=xs.length+1:=by simp
  rw[e1];refine dL (ay ho (λk hk=>?_)) (λk hk=>?_)
  ·simp only[Value.ownBlock,Option.some.injEq] at hk
   subst hk;rw[hW,aq _ _ (by simpa using TH)]
  ·simp only[Value.ownBlock,Option.some.injEq] at hk
   subst hk;exact hgb
 ·simp only[Value.ownBlock,ne_eq,Option.some.injEq];exact TH
theorem kN.pop {w0 w:World} {yb:Nat} {cs:Array Value} {T:TypeId} {E:TypeId} {xs:List Value} {x:Value} {g cap o:Nat}
  (h:kN w0 w yb cs T (.slice (some ⟨g,0,none⟩) (xs.length+1) cap) E (xs++[x])) :
  kN w0 (w.setCell ⟨yb,o,none⟩ (.slice (some ⟨g,0,none⟩) xs.length cap)) yb (cs.setIfInBounds o (.slice (some ⟨g,0,none⟩) xs.length cap)) T (.slice (some ⟨g,0,none⟩) xs.length cap) E xs:=by
 have oth:∀ b,b≠yb->(w.setCell ⟨yb,o,none⟩ (.slice (some ⟨g,0,none⟩) xs.length cap)).heap[b]?=w.heap[b]?:=λb hb=>aq _ _ (by simpa using hb)
 have hp:w.ownsRow w0.heap.size E 1 (.slice (some ⟨g,0,none⟩) xs.length cap) xs.length xs:=by
  refine ownsRow_pop (last:=[x]) (by simp) ?_;have:=h.n
  simpa using this
 refine⟨?_,h.hyb,(aA h.y o _).trans rfl,ay hp (λk hk=>oth k (λe=>h.ny (by rw[<- e];exact hk))),h.ny⟩;exact h.b0.setCell (p:=⟨yb,o,none⟩) h.hyb _
theorem kN.shape {w0 w:World} {yb:Nat} {cs:Array Value} {T:TypeId} {nv:Value} {E:TypeId} {xs:List Value} (h:kN w0 w yb cs T nv E xs):∃ a cap,nv=.slice a xs.length cap/\xs.length<=cap/\(0<xs.length->∃ g,a=some ⟨g,0,none⟩):=by
 rcases h.n.2 with ⟨hv,hn⟩ | ⟨g,cap,cur,hv,_,_,hc,_⟩
 ·exact⟨none,0,by rw[hv,hn],by omega,λh=>by omega⟩
 ·exact⟨_,cap,hv,hc,λ_=>⟨g,rfl⟩⟩
theorem kN.other {w0 w w':World} {yb:Nat} {cs:Array Value} {T:TypeId} {nv bJ:Value} {E:TypeId} {xs:List Value} (h:kN w0 w yb cs T nv E xs) (hf:du w w' yb nv bJ) {U:TypeId} (hT:U≠T) (hE:U≠E) {k:Nat} {arr:Array Value} {fz:Nat × Nat} (hk:w.heap[k]?=some (.cells arr U fz)):w'.heap[k]?=some (.cells arr U fz):=by
 rw[<- hk];refine hf.blk k (af hk) ?_ ?_
 ·rintro rfl
  have:=h.y;rw[hk] at this;simp only[Option.some.injEq,Obj.cells.injEq] at this;exact hT this.2.1
 ·intro e
  rcases h.n.2 with ⟨hv,hn⟩ | ⟨g,cap,cur,hv,_,hg,_⟩
  ·rw[hv] at e;cases e
  ·rw[hv] at e
   simp only[Value.ownBlock,Option.some.injEq] at e;subst e;rw[hk] at hg;simp only[Option.some.injEq,Obj.cells.injEq] at hg;exact hE hg.2.1
def VA (c:Int):Prop:=-9223372036854775808<=c/\c<=9223372036854775807
def tX (w:World) (rv:Value) (raw:List Int):Prop :=
 (∀ c∈raw,VA c)/\((rv=.slice none 0 0/\raw=[])\/∃ a cap,rv=.slice (some a) raw.length cap/\raw.length<=maxLen/\∀ (i:Nat) (c:Int),raw[i]?=some c->w.cell? (a.add i)=some (.int .i64 c))
theorem tX.below {w w':World} {rv:Value} {raw:List Int} (h:tX w rv raw) (hb:Below w.heap.size w w'):tX w' rv raw:=by
 refine⟨h.1,?_⟩
 rcases h.2 with h | ⟨a,cap,h1,h2,h3⟩
 ·exact Or.inl h
 ·exact Or.inr ⟨a,cap,h1,h2,λi c hc=>(hb.cell (World.block_lt_of_cell? _ _ (h3 i c hc))).trans (h3 i c hc)⟩
def fq (rv:Value) (s:fC) (nv:Value):Array Value:=#[rv,.int .i64 s.at_,.int .i64 s.left,nv]
def jP (l:List Nat):List Value:=l.map (λ(k:Nat)=>Value.int .i64 k)
structure cd (w0 w:World) (yb:Nat) (rv:Value) (raw:List Int) (s:fC) (nv:Value):Prop where
 r:tX w0 rv raw
 ob:kN w0 w yb (fq rv s nv) 49 nv 3 (jP s.vars)
theorem cd.grow {w0 w w':World} {yb:Nat} {rv:Value} {raw:List Int} {s:fC} {nv:Value} (h:cd w0 w yb rv raw s nv) (hb:Below w.heap.size w w'):cd w0 w' yb rv raw s nv:=⟨h.r,h.ob.grow hb⟩
theorem yo (c:Int) (n:Nat) (w:World) (hc:VA c) (hn:0<n) (hn':n<=100000):Calls Tryz.prog 10 #[.int .i64 c,.int .i64 n] w λe w'=>e=.returned (.int .i64 (jn c n:Nat))/\w'=w:=by
 obtain⟨h1,h2⟩:=hc;have hl:=pY c n hn
 have hv:((jn c n:Nat):Int)=Int.tmod (if c<0 then -(c+1) else c) n:=by
  unfold jn;exact Int.toNat_of_nonneg (Int.tmod_nonneg _ (by split <;> omega))
 rw[hv]
 have hne:((n:Int)==0)=false:=by rw[beq_eq_false_iff_ne];omega
 by_cases h0:c<0
 ·rw[if_pos h0] at hv ⊢
  go_enter Tryz.func10,Tryz.ntmps10
  go_wp2
  go_ret
  exact⟨by rw[Int.neg_tmod];rfl,rfl⟩
 ·rw[if_neg h0] at hv ⊢
  go_enter Tryz.func10,Tryz.ntmps10
  go_wp2
  go_ret
  exact⟨by rw[Int.tmod_eq_emod_of_nonneg (by omega)];rfl,rfl⟩
theorem Tryz.Eb:(Tryz.prog.info? 98).map (·.size)=some 5:=by kernel_rfl
theorem oo (t:Nat) (ht:t<5) (w:World):Calls Tryz.prog 41 #[.int .i64 t] w λe w'=>e=.returned (.int .i64 (fI t))/\Below w.heap.size w w':=by
 have h5:t=0\/t=1\/t=2\/t=3\/t=4:=by omega
 rcases h5 with rfl | rfl | rfl | rfl | rfl
 all_goals
  go_enter Tryz.func41,Tryz.ntmps41
  go_wp2_with (refine jY rfl 98 (.tmp 3) (.tmp 4) rfl w.heap.size #[.int .i64 (-1),.int .i64 0,.int .i64 1,.int .i64 0,.int .i64 1] rfl rfl 98 _ (aj _ _) Tryz.Eb rfl (by simp[Value.oneCell']) ?_;intro W hW mr nU hW1 hW2 hW3;have s0:W.cell? ⟨w.heap.size,0,none⟩=some (.int .i64 (-1)):=(by rw[aa hW];rfl);have s1:W.cell? ⟨w.heap.size,1,none⟩=some (.int .i64 0):=(by rw[aa hW];rfl);have s2:W.cell? ⟨w.heap.size,2,none⟩=some (.int .i64 1):=(by rw[aa hW];rfl);have s3:W.cell? ⟨w.heap.size,3,none⟩=some (.int .i64 0):=(by rw[aa hW];rfl);have s4:W.cell? ⟨w.heap.size,4,none⟩=some (.int .i64 1):=(by rw[aa hW];rfl);have hwl:=af hW;have HB:Hid (Below w.heap.size w W):=fP (Below.alloc (Below.refl _ w) (Nat.le_refl _) _) (Nat.le_refl _) mr nU hW1 hW2 hW3;clear hW mr nU hW1 hW2 hW3)
  go_ret
  exact⟨rfl,HB.out⟩
theorem mJ (t:Nat) (ht:t<5) (w:World):Calls Tryz.prog 42 #[.int .i64 t] w λe w'=>e=.returned (.int .i64 (sI t))/\Below w.heap.size w w':=by
 have h5:t=0\/t=1\/t=2\/t=3\/t=4:=by omega
 rcases h5 with rfl | rfl | rfl | rfl | rfl
 all_goals
  go_enter Tryz.func42,Tryz.ntmps42
  go_wp2_with (refine jY rfl 98 (.tmp 3) (.tmp 4) rfl w.heap.size #[.int .i64 (-1),.int .i64 0,.int .i64 0,.int .i64 1,.int .i64 1] rfl rfl 98 _ (aj _ _) Tryz.Eb rfl (by simp[Value.oneCell']) ?_;intro W hW mr nU hW1 hW2 hW3;have s0:W.cell? ⟨w.heap.size,0,none⟩=some (.int .i64 (-1)):=(by rw[aa hW];rfl);have s1:W.cell? ⟨w.heap.size,1,none⟩=some (.int .i64 0):=(by rw[aa hW];rfl);have s2:W.cell? ⟨w.heap.size,2,none⟩=some (.int .i64 0):=(by rw[aa hW];rfl);have s3:W.cell? ⟨w.heap.size,3,none⟩=some (.int .i64 1):=(by rw[aa hW];rfl);have s4:W.cell? ⟨w.heap.size,4,none⟩=some (.int .i64 1):=(by rw[aa hW];rfl);have hwl:=af hW;have HB:Hid (Below w.heap.size w W):=fP (Below.alloc (Below.refl _ w) (Nat.le_refl _) _) (Nat.le_refl _) mr nU hW1 hW2 hW3;clear hW mr nU hW1 hW2 hW3)
  go_ret
  exact⟨rfl,HB.out⟩
theorem dh {w0 w:World} {yb:Nat} {rv:Value} {raw:List Int} {s:fC} {nv:Value} (n:Nat) (hn:0<n) (hn':n<=100000) (h:cd w0 w yb rv raw s nv) (hat:s.at_<=1000000) :
  Calls Tryz.prog 34 #[.pointer (some ⟨yb,0,none⟩),.int .i64 n] w λe w'=>e=.returned (.int .i64 ((aT raw n s).1:Nat))/\du w w' yb nv nv/\cd w0 w' yb rv raw (aT raw n s).2 nv:=by
 have nV:=af h.ob.y
 have y1:w.cell? ⟨yb,1,none⟩=some (.int .i64 s.at_):=by rw[aa h.ob.y];rfl
 have f1:w.frozen? ⟨yb,1,none⟩=false:=ag h.ob.y 1
 have y0:w.cell? ⟨yb,0,none⟩=some rv:=by rw[aa h.ob.y];rfl
 by_cases hr:raw=[]
 ·have iL:aT raw n s=(0,s):=by unfold aT;rw[if_pos hr]
  rw[iL]
  obtain⟨a,cap,Cy⟩:∃ a cap,rv=.slice a 0 cap:=by
   rcases h.r.2 with ⟨h1,_⟩ | ⟨a,cap,h1,_,_⟩
   ·exact⟨none,0,h1⟩
   ·exact⟨some a,cap,by rw[h1,hr];rfl⟩
  rw[Cy] at y0;have HH:Hid _:=h;clear h hr iL f1 y1
  go_enter Tryz.func34,Tryz.ntmps34
  go_wp2
  go_ret
  exact⟨rfl,du.refl _ _ _,HH.out⟩
 ·have hpos:0<raw.length:=List.length_pos_iff.2 hr
  obtain⟨a,cap,Cy,hlen,Gh⟩:∃ a cap,rv=.slice (some a) raw.length cap/\raw.length<=maxLen/\∀ (i:Nat) (c:Int),raw[i]?=some c->w0.cell? (a.add i)=some (.int .i64 c):=by
   rcases h.r.2 with ⟨_,h1⟩ | ⟨a,cap,h1,h2,h3⟩
   ·exact absurd h1 hr
   ·exact⟨a,cap,h1,h2,h3⟩
  have hlt:=Nat.mod_lt s.at_ hpos;obtain⟨c,hc⟩:∃ c,raw[s.at_ % raw.length]?=some c:=⟨_,List.getElem?_eq_getElem hlt⟩
  have iL:aT raw n s=(jn c n,{ s with at_:=s.at_+1 }):=by unfold aT;rw[if_neg hr,List.getD_eq_getElem?_getD,hc];rfl
  rw[iL];have hci:VA c:=h.r.1 c (List.mem_of_getElem? hc);have He:=Gh _ c hc;have hcell:w.cell? (a.add (s.at_ % raw.length))=some (.int .i64 c):=(h.ob.b0.cell (World.block_lt_of_cell? _ _ He)).trans He;have hal:(a.add (s.at_ % raw.length)).block<w.heap.size:=World.block_lt_of_cell? _ _ hcell;have Ec:Int.tmod (s.at_:Int) (raw.length:Int)=((s.at_ % raw.length:Nat):Int):=(Int.ofNat_tmod _ _).symm
  have hpk:=λw=>yo c n w hci hn hn'
  rw[Cy] at y0
  have q0:((raw.length:Int)==0)=false:=by rw[beq_eq_false_iff_ne];omega
  have hset:=λm=>(h.ob.grow (dx w m)).set 1 (.int .i64 ((s.at_:Int)+1)) (cs':=fq rv { s with at_:=s.at_+1 } nv) (by simp[fq])
  have Cq:Hid _:=hset;have HR:Hid _:=h.r;have Yy:raw.length<=maxLen:=hlen;clear h hr iL Gh hc hset He hlen;generalize hix:s.at_ % raw.length=ix at *
  go_enter Tryz.func34,Tryz.ntmps34
  go_wp2
  go_quiet (fail)
  go_wp2_with fail
  refine (hpk _).mono ?_;rintro _ w2 ⟨rfl,rfl⟩
  go_wp2
  go_ret
  exact⟨rfl,du.setAt w yb nv _ 1 _,HR.out,Cq.out _⟩
def pF (op:List UInt8) (n:Nat) (kv:Value):Array Value:=#[.string (bs op),.int .i64 n,kv]
def eD (w:World):KE->Nat->Prop
 | .num n,p=>w.heap[p]?=some (.cells (pF [] n (.slice none 0 0)) 59 (0,0))
 | .var n,p=>w.heap[p]?=some (.cells (pF [120] n (.slice none 0 0)) 59 (0,0))
 | .n1 k a,p=>∃ c pa:Nat,w.heap[p]?=some (.cells (pF k.bytes 0 (.slice (some ⟨c,0,none⟩) 1 1)) 59 (0,0))/\w.heap[c]?=some (.cells #[.pointer (some ⟨pa,0,none⟩)] 23 (0,0))/\eD w a pa
 | .n2 k n a b,p=>∃ c pa pb:Nat,w.heap[p]?=some (.cells (pF k.bytes n (.slice (some ⟨c,0,none⟩) 2 2)) 59 (0,0))/\w.heap[c]?=some (.cells #[.pointer (some ⟨pa,0,none⟩),.pointer (some ⟨pb,0,none⟩)] 23 (0,0))/\eD w a pa/\eD w b pb
 | .n3 k n a b d,p=>∃ c pa pb pd:Nat,w.heap[p]?=some (.cells (pF k.bytes n (.slice (some ⟨c,0,none⟩) 3 3)) 59 (0,0))/\w.heap[c]?=some (.cells #[.pointer (some ⟨pa,0,none⟩),.pointer (some ⟨pb,0,none⟩),.pointer (some ⟨pd,0,none⟩)] 23 (0,0))/\eD w a pa/\eD w b pb/\eD w d pd
theorem eD.keep {w w':World} (h:∀ (k:Nat) (arr:Array Value) (U:TypeId),U=59\/U=23->w.heap[k]?=some (.cells arr U (0,0))->w'.heap[k]?=some (.cells arr U (0,0))):∀ {x:KE} {p:Nat},eD w x p->eD w' x p
 | .num _,_,hx=>h _ _ _ (Or.inl rfl) hx
 | .var _,_,hx=>h _ _ _ (Or.inl rfl) hx
 | .n1 _ _,_,⟨c,pa,h1,h2,h3⟩=>⟨c,pa,h _ _ _ (Or.inl rfl) h1,h _ _ _ (Or.inr rfl) h2,eD.keep h h3⟩
 | .n2 _ _ _ _,_,⟨c,pa,pb,h1,h2,h3,h4⟩=>⟨c,pa,pb,h _ _ _ (Or.inl rfl) h1,h _ _ _ (Or.inr rfl) h2,eD.keep h h3,eD.keep h h4⟩
 | .n3 _ _ _ _ _,_,⟨c,pa,pb,pd,h1,h2,h3,h4,h5⟩=>⟨c,pa,pb,pd,h _ _ _ (Or.inl rfl) h1,h _ _ _ (Or.inr rfl) h2,eD.keep h h3,eD.keep h h4,eD.keep h h5⟩
theorem eD.below {w w':World} {x:KE} {p:Nat} (h:eD w x p) (hb:Below w.heap.size w w'):eD w' x p:=h.keep (λk _ _ _ hk=>(hb.block k (af hk)).trans hk)
theorem eD.fr {w0 w w':World} {yb:Nat} {rv:Value} {raw:List Int} {s:fC} {nv bJ:Value} {x:KE} {p:Nat} (h:eD w x p) (hm:cd w0 w yb rv raw s nv) (hf:du w w' yb nv bJ):eD w' x p :=
 h.keep (λk arr U hU hk=>hm.ob.other hf (by rcases hU with rfl | rfl <;> decide) (by rcases hU with rfl | rfl <;> decide) hk)
theorem Hf {w:World} {b n:Nat} {E:TypeId} {v:Value} {xs:List Value} (h:w.ownsRow b E 1 v n xs):∃ a cap,v=.slice a n cap/\(0<n->∃ g,a=some ⟨g,0,none⟩):=by
 rcases h.2 with ⟨hv,hn⟩ | ⟨g,cap,cur,hv,_⟩
 ·exact⟨none,0,by rw[hv,hn],λh=>by omega⟩
 ·exact⟨_,cap,hv,λ_=>⟨g,rfl⟩⟩
theorem KW (vars:List Nat) (t j:Nat):idxs vars t (j+1)=if vars.getD j 9=t then idxs vars t j++[j] else idxs vars t j:=by
 unfold idxs;rw[List.range_succ,List.filter_append]
 by_cases h:vars.getD j 9=t
 ·rw[if_pos h];simp only[List.filter_cons,List.filter_nil,h,beq_self_eq_true,if_true]
 ·have hb:(vars.getD j 9==t)=false:=by simpa using h
  rw[if_neg h];simp only[List.filter_cons,List.filter_nil,hb,Bool.false_eq_true,if_false,List.append_nil]
theorem Ed (vars:List Nat) (t j:Nat):(idxs vars t j).length<=j:=by
 unfold idxs;have:=List.length_filter_le (λi=>vars.getD i 9==t) (List.range j);simpa using this
theorem Q9 {vars:List Nat} {t j x:Nat} (h:x∈idxs vars t j):x<j:=by
 unfold idxs at h;rw[List.mem_filter,List.mem_range] at h;exact h.1
theorem Tryz.Ee:(Tryz.prog.info? 3).map (λi=>(i.zero,i.size,i.bytes))=some (some (.int .i64 0),1,8):=by kernel_rfl
theorem Tryz.Ef:Tryz.prog.underlying 22=some (.slice 3):=by kernel_rfl
theorem KX {w0 w:World} {yb:Nat} {rv:Value} {raw:List Int} {s:fC} {nv:Value} (t k:Nat) (h:cd w0 w yb rv raw s nv) (hvl:s.vars.length<=200) :
  Calls Tryz.prog 57 #[.pointer (some ⟨yb,0,none⟩),.int .i64 t,.int .i64 k] w λe w'=>Below w.heap.size w w'/\((kM s.vars t k=none/\e=.returned (.pointer none))\/∃ (x:KE) (p:Nat),kM s.vars t k=some x/\e=.returned (.pointer (some ⟨p,0,none⟩))/\eD w' x p):=by
 obtain⟨i0,hi,hz0,hz1,hz2⟩:=info_parts Tryz.Ee;have HI:Hid _:=hi;have rR:Hid _:=hz0;have rS:Hid _:=hz1;have rT:Hid _:=hz2;have nV:=af h.ob.y;obtain⟨na,nc,qP,_,aO⟩:=h.ob.shape
 have YN:(jP s.vars).length=s.vars.length:=by simp[jP]
 rw[YN] at qP aO
 have y3:w.cell? ⟨yb,3,none⟩=some (.slice na s.vars.length nc):=by rw[aa h.ob.y,<- qP];rfl
 have hcell:∀ j,(hj:j<s.vars.length)->∃ g,na=some ⟨g,0,none⟩/\g<w.heap.size/\w.cell? ⟨g,j,none⟩=some (.int .i64 (s.vars[j]:Nat)):=by
  intro j hj;obtain⟨g,hg⟩:=aO (by omega);have ho:=h.ob.n;rw[qP,hg,YN] at ho
  have hc:w.cell? ⟨g,j,none⟩=some (.int .i64 (s.vars[j]:Nat)):=by
   rw[ho.cellAt j (by omega)];unfold jP;rw[List.getElem?_map,List.getElem?_eq_getElem hj];rfl
  exact⟨g,hg,World.block_lt_of_cell? _ _ hc,hc⟩
 have HC:Hid _:=hcell;have hlen:=Ed s.vars t s.vars.length;clear hi hz0 hz1 hz2 h qP aO hcell
 go_enter Tryz.func57,Tryz.ntmps57
 go_wp2
 go_loopw [7,8] (λl i wr=>∃ j:Nat,j<=s.vars.length/\i=.int .i64 j/\wr.ownsRow w.heap.size 3 1 l (idxs s.vars t j).length (jP (idxs s.vars t j))/\Below w.heap.size w wr) (λ_ i _=>s.vars.length-(intOf i).toNat)
 case atStart=>exact⟨0,by omega,rfl,World.ownsRow_nil _ _ _ _,Below.refl _ _⟩
 case round =>
  obtain⟨j,hj,rfl,hown,hbel⟩:=hrel;have hsz:=hbel.size;have q3:wr.cell? ⟨yb,3,none⟩=some (.slice na s.vars.length nc):=(hbel.cell (p:=⟨yb,3,none⟩) nV).trans y3
  have VB:yb<wr.heap.size:=by omega
  have HO:Hid _:=hown;have HB:Hid _:=hbel;clear hown hbel
  by_cases hlt:j<s.vars.length
  ·obtain⟨g,rfl,hg,hc⟩:=HC.out j hlt
   have KG:wr.cell? ⟨g,j,none⟩=some (.int .i64 (s.vars[j]:Nat)):=(HB.out.cell (p:=⟨g,j,none⟩) hg).trans hc
   have hgr:g<wr.heap.size:=by omega
   have yp:=KW s.vars t j;rw[List.getD_eq_getElem?_getD,List.getElem?_eq_getElem hlt,Option.getD_some] at yp;have mG:=Ed s.vars t j
   by_cases hv:s.vars[j]=t
   ·have qv:(((s.vars[j]:Nat):Int)==(t:Int))=true:=by rw[hv];simp
    rw[if_pos hv] at yp;have HS:Hid _:=yp;clear yp hv hc y3;generalize s.vars[j]=vj at *
    go_wp2_with (at_builtin;go_must (refine wpList_append_own _ rfl (.tmp 27) (.tmp 29) 22 rfl w.heap.size 3 i0 _ 1 8 Tryz.Ef HI.out rR.out rS.out rT.out rfl (by decide) _ (idxs s.vars t j).length (jP (idxs s.vars t j)) rfl (World.ownsRow.alloc HO.out _) ⟨wr.heap.size,0,none⟩ 1 1 [.int .i64 j] rfl rfl ?c1 ?c2 ?c3 ?c4 ?c5 ?_))
    case c1 =>
     intro j u hj;rw[<- hj];exact bV _ _ _ _
    case c2=>intro u hu;simp at hu;subst hu;rfl
    case c3=>unfold maxLen;omega
    case c4=>first | omega | (simp;omega)
    case c5=>first | omega | (simp;omega)
    intro v' w4 hown' hgrow hnil;have eC:Hid (Below w.heap.size w w4):=(HB.out.alloc hsz _).grown hgrow (by simp;omega) (λb hb=>(World.ownsRow.lt HO.out b hb).1);have GW:Hid _:=hown';clear hown' hgrow hnil
    go_wp2
    go_roundw
    case rel =>
     refine⟨j+1,by omega,by go_num,?_,eC.out⟩;rw[HS.out];unfold jP;rw[List.length_append,List.map_append];exact GW.out
    case measure=>simp[intOf];omega
   ·have qv:(((s.vars[j]:Nat):Int)==(t:Int))=false:=by rw[beq_eq_false_iff_ne];omega
    rw[if_neg hv] at yp;have HS:Hid _:=yp;clear yp hv hc y3;generalize s.vars[j]=vj at *
    go_wp2
    go_roundw
    case rel=>exact⟨j+1,by omega,by go_num,by rw[HS.out];exact HO.out,HB.out⟩
    case measure=>simp[intOf];omega
  ·have Gf:j=s.vars.length:=by omega
   subst Gf;obtain⟨L,hL⟩:∃ L,L=idxs s.vars t s.vars.length:=⟨_,rfl⟩
   have hmem:∀ x∈L,x<s.vars.length:=λx hx=>Q9 (by rw[hL] at hx;exact hx)
   have hnm:kM s.vars t k=if L=[] then none else some (.var (L.getD (k % L.length) 0)):=by unfold kM;rw[<- hL]
   rw[<- hL] at HO hlen;have MD:Hid _:=hnm;clear hL hnm HC y3;obtain⟨la,lc,hlv,hla⟩:=Hf HO.out;subst hlv
   by_cases hn:L=[]
   ·have Dw:Hid _:=hn
    have Vz:L.length=0:=by rw[hn];rfl
    rw[Vz] at HO ⊢;clear hla hmem hn
    go_wp2
    go_ret
    exact⟨HB.out,Or.inl ⟨by rw[MD.out,if_pos Dw.out],rfl⟩⟩
   ·have Dw:Hid _:=hn
    have hpos:0<L.length:=List.length_pos_iff.2 hn;obtain⟨g,rfl⟩:=hla hpos;have hkl:=Nat.mod_lt k hpos;have Ec:Int.tmod (k:Int) (L.length:Int)=((k % L.length:Nat):Int):=(Int.ofNat_tmod _ _).symm
    have hcx:wr.cell? ⟨g,k % L.length,none⟩=some (.int .i64 (L.getD (k % L.length) 0:Nat)):=by
     rw[World.ownsRow.cellAt HO.out _ (by omega)];unfold jP;rw[List.getElem?_map,List.getD_eq_getElem?_getD,List.getElem?_eq_getElem hkl];rfl
    have hgl:g<wr.heap.size:=World.block_lt_of_cell? _ _ hcx
    have ql:((L.length:Int)==0)=false:=by rw[beq_eq_false_iff_ne];omega
    clear hla hmem hn;generalize L.getD (k % L.length) 0=nx at *;generalize k % L.length=ix at *
    go_wp2
    go_ret
    refine⟨HB.out.alloc hsz _,Or.inr ⟨_,_,by rw[MD.out,if_neg Dw.out],rfl,?_⟩⟩;exact aj _ _
theorem nG (w:World) (k:Kw) (n pa pb:Nat) {a b:KE} (ha:eD w a pa) (hb:eD w b pb) :
  Below w.heap.size w ((w.alloc (.cells #[.pointer (some ⟨pa,0,none⟩),.pointer (some ⟨pb,0,none⟩)] 23 (0,0))).alloc (.cells (pF k.bytes n (.slice (some ⟨w.heap.size,0,none⟩) 2 2)) 59 (0,0))) /\
  eD ((w.alloc (.cells #[.pointer (some ⟨pa,0,none⟩),.pointer (some ⟨pb,0,none⟩)] 23 (0,0))).alloc (.cells (pF k.bytes n (.slice (some ⟨w.heap.size,0,none⟩) 2 2)) 59 (0,0))) (.n2 k n a b) (w.heap.size+1):=by
 have h1:=bg (Below.refl _ w) (.cells #[.pointer (some ⟨pa,0,none⟩),.pointer (some ⟨pb,0,none⟩)] 23 (0,0));have h2:=bg h1 (.cells (pF k.bytes n (.slice (some ⟨w.heap.size,0,none⟩) 2 2)) 59 (0,0));refine⟨h2,w.heap.size,pa,pb,?_,?_,ha.below h2,hb.below h2⟩
 ·have:=aj (w.alloc (.cells #[.pointer (some ⟨pa,0,none⟩),.pointer (some ⟨pb,0,none⟩)] 23 (0,0))) (.cells (pF k.bytes n (.slice (some ⟨w.heap.size,0,none⟩) 2 2)) 59 (0,0))
  simpa using this
 ·rw[Below.heap_alloc _ _ _ (by simp)];exact aj _ _
theorem yq {w0:World} {yb:Nat} {rv:Value} {raw:List Int} (f:Nat):∀ (t:Nat) (s:fC) (nv:Value) (w:World),t<5->dep t<f->cd w0 w yb rv raw s nv->s.vars.length<=200->s.at_+40*s.left+Cw t<=1000000 ->
  Calls Tryz.prog 38 #[.pointer (some ⟨yb,0,none⟩),.int .i64 t] w λe w'=>∃ p,e=.returned (.pointer (some ⟨p,0,none⟩))/\du w w' yb nv nv/\cd w0 w' yb rv raw (ed raw f t s).2 nv/\eD w' (ed raw f t s).1 p:=by
 induction f with
 | zero=>intro t s nv w _ h;omega
 | succ f ih =>
  intro t s nv w ht hd h hvl hat;have hW:=@NB t;have iL:=dh 7 (by omega) (by omega) h (by omega);have hst:=bI raw 7 s;have hx7:=bZ raw 7 s (by omega);have hlf:ed raw (f+1) t s=ed raw (f+1) t s:=rfl;generalize YO:ed raw (f+1) t s=R at hlf ⊢;simp only[ed] at YO;generalize aT raw 7 s=x at *;obtain⟨x1,x2,x3,x4⟩:=hst
  have HA:Hid (∀ y,1<x.1->kM x.2.vars t x.1=some y->R=(y,x.2)):=λy h1 h2=>by rw[<- YO,if_pos h1,h2]
  have HB:Hid ((if 1<x.1 then kM x.2.vars t x.1 else none)=none->t=0->R=(.num (aT raw 60 x.2).1,(aT raw 60 x.2).2)):=λh1 h2=>by rw[<- YO,h1,if_pos h2]
  have HC:Hid ((if 1<x.1 then kM x.2.vars t x.1 else none)=none->t≠0->R=(.n2 .pair 0 (ed raw f (fT t) x.2).1 (ed raw f (sT t) (ed raw f (fT t) x.2).2).1,(ed raw f (sT t) (ed raw f (fT t) x.2).2).2)):=λh1 h2=>by rw[<- YO,h1,if_neg h2]
  clear YO hlf h;have nf:Hid _:=iL;clear iL
  go_enter Tryz.func38,Tryz.ntmps38
  go_wp2_with fail
  refine Calls.mono nf.out ?_;rintro _ w1 ⟨rfl,hf1,jD⟩;clear nf
  by_cases hk:1<x.1
  ·have hnm:=KX t x.1 jD (by rw[x2];omega)
   have MD:Hid _:=hnm;have eH:Hid _:=hf1;have lz:Hid _:=jD;clear hnm hf1 jD
   go_wp2_with fail
   refine Calls.mono MD.out ?_;rintro e w2 ⟨hb2,⟨hn,rfl⟩ | ⟨y,p,hy,rfl,YP⟩⟩
   ·have hm2:=lz.out.grow hb2
    have hf2:=eH.out.trans (du.below hb2 _ _)
    have HN:Hid ((if 1<x.1 then kM x.2.vars t x.1 else none)=none):=by show _=_;rw[if_pos hk];exact hn
    clear hn hb2 lz eH MD HA
    by_cases h0:t=0
    ·have hR:=HB.out HN.out h0
     subst h0;have hz:=dh 60 (by omega) (by omega) hm2 (by omega);have hzs:=bI raw 60 x.2;generalize aT raw 60 x.2=z at *;have HZ:Hid _:=hz;have cS:Hid _:=hf2;clear hz hm2 hf2
     go_wp2_with fail
     refine Calls.mono HZ.out ?_;rintro _ w3 ⟨rfl,hf3,Bh⟩;have ee:Hid _:=cS.out.trans hf3;have yt:Hid _:=Bh;clear hf3 Bh HZ cS;have HR:Hid _:=hR;clear hR
     go_wp2
     go_ret
     rw[HR.out];have rX:=bg (Below.refl _ w3) (.cells (pF [] z.1 (.slice none 0 0)) 59 (0,0));exact⟨_,rfl,ee.out.trans (du.below rX _ _),yt.out.grow rX,aj _ _⟩
    ·have hR:=HC.out HN.out h0
     have hp:=yj ht h0;have hdp:=vo ht h0
     have hfi:fI t=((fT t:Nat):Int):=by unfold fI;rw[if_neg h0]
     have hsi:sI t=((sT t:Nat):Int):=by unfold sI;rw[if_neg h0]
     have q0:((t:Int)==0)=false:=by rw[beq_eq_false_iff_ne];omega
     have hfs:=oo t ht;have AK:=mJ t ht;rw[hfi] at hfs;rw[hsi] at AK;have ME:Hid _:=hfs;have Qz:Hid _:=AK;have cS:Hid _:=hf2;have mK:Hid _:=hm2;have hlo:=lQ raw f (fT t) x.2 hp.2.2.2.2.1 (by omega)
     have hia:=λW hW=>ih (fT t) x.2 nv W hp.2.2.2.2.1 (by omega) (hm2.grow hW) (by rw[x2];omega) (by omega)
     generalize ed raw f (fT t) x.2=a at *
     have hib:=λW hW=>ih (sT t) a.2 nv W hp.2.2.2.2.2 (by omega) hW (by rw[hlo.vars,x2];omega) (by have:=hlo.at_;have:=hlo.left;omega)
     generalize ed raw f (sT t) a.2=b at *;have Bi:Hid _:=hia;have Bj:Hid _:=hib;clear hfi hsi hfs AK hm2 hf2 hlo hia hib hdp hp ih h0
     go_wp2_with fail
     refine Calls.mono (ME.out _) ?_;rintro _ w3 ⟨rfl,hb3⟩
     go_wp2_with fail
     refine Calls.mono (Bi.out w3 hb3) ?_;rintro _ w4 ⟨pa,rfl,dE,tW,wK⟩;have kA:Hid _:=(cS.out.trans (du.below hb3 _ _)).trans dE;have tE:Hid _:=tW;have Dx:Hid _:=wK;clear hb3 dE tW wK cS mK Bi
     go_wp2_with fail
     refine Calls.mono (Qz.out _) ?_;rintro _ w5 ⟨rfl,nD⟩;have Ar:=tE.out.grow nD;have NG:=Dx.out.below nD;have gB:Hid _:=kA.out.trans (du.below nD _ _);have Jw:Hid _:=Ar;have Jx:Hid _:=NG;clear nD Ar NG tE Dx kA
     go_wp2_with fail
     refine Calls.mono (Bj.out w5 Jw.out) ?_;rintro _ w6 ⟨pb,rfl,yu,YQ,YR⟩;have HK6:Hid _:=Jx.out.fr Jw.out yu;have XI:Hid _:=gB.out.trans yu;have HM6:Hid _:=YQ;have VC:Hid _:=YR;clear yu YQ YR Jx gB Jw Bj;have HR:Hid _:=hR;clear hR
     go_wp2
     go_ret
     rw[HR.out];have h2:=nG w6 (.pair) 0 pa pb HK6.out VC.out;exact⟨_,rfl,XI.out.trans (du.below h2.1 _ _),HM6.out.grow h2.1,h2.2⟩
   ·have hR:=HA.out y hk hy
    have eC:Hid _:=hb2;have HK:Hid _:=YP;clear hb2 YP MD HB HC;have HR:Hid _:=hR;clear hR
    go_wp2
    go_ret
    rw[HR.out];exact⟨p,rfl,eH.out.trans (du.below eC.out _ _),lz.out.grow eC.out,HK.out⟩
  ·have HN:Hid ((if 1<x.1 then kM x.2.vars t x.1 else none)=none):=by show _=_;rw[if_neg hk]
   have hm2:=jD;have hf2:=hf1;clear jD hf1 HA
   by_cases h0:t=0
   ·have hR:=HB.out HN.out h0
    subst h0;have hz:=dh 60 (by omega) (by omega) hm2 (by omega);have hzs:=bI raw 60 x.2;generalize aT raw 60 x.2=z at *;have HZ:Hid _:=hz;have cS:Hid _:=hf2;clear hz hm2 hf2
    go_wp2_with fail
    refine Calls.mono HZ.out ?_;rintro _ w3 ⟨rfl,hf3,Bh⟩;have ee:Hid _:=cS.out.trans hf3;have yt:Hid _:=Bh;clear hf3 Bh HZ cS;have HR:Hid _:=hR;clear hR
    go_wp2
    go_ret
    rw[HR.out];have rX:=bg (Below.refl _ w3) (.cells (pF [] z.1 (.slice none 0 0)) 59 (0,0));exact⟨_,rfl,ee.out.trans (du.below rX _ _),yt.out.grow rX,aj _ _⟩
   ·have hR:=HC.out HN.out h0
    have hp:=yj ht h0;have hdp:=vo ht h0
    have hfi:fI t=((fT t:Nat):Int):=by unfold fI;rw[if_neg h0]
    have hsi:sI t=((sT t:Nat):Int):=by unfold sI;rw[if_neg h0]
    have q0:((t:Int)==0)=false:=by rw[beq_eq_false_iff_ne];omega
    have hfs:=oo t ht;have AK:=mJ t ht;rw[hfi] at hfs;rw[hsi] at AK;have ME:Hid _:=hfs;have Qz:Hid _:=AK;have cS:Hid _:=hf2;have mK:Hid _:=hm2;have hlo:=lQ raw f (fT t) x.2 hp.2.2.2.2.1 (by omega)
    have hia:=λW hW=>ih (fT t) x.2 nv W hp.2.2.2.2.1 (by omega) (hm2.grow hW) (by rw[x2];omega) (by omega)
    generalize ed raw f (fT t) x.2=a at *
    have hib:=λW hW=>ih (sT t) a.2 nv W hp.2.2.2.2.2 (by omega) hW (by rw[hlo.vars,x2];omega) (by have:=hlo.at_;have:=hlo.left;omega)
    generalize ed raw f (sT t) a.2=b at *;have Bi:Hid _:=hia;have Bj:Hid _:=hib;clear hfi hsi hfs AK hm2 hf2 hlo hia hib hdp hp ih h0
    go_wp2_with fail
    refine Calls.mono (ME.out _) ?_;rintro _ w3 ⟨rfl,hb3⟩
    go_wp2_with fail
    refine Calls.mono (Bi.out w3 hb3) ?_;rintro _ w4 ⟨pa,rfl,dE,tW,wK⟩;have kA:Hid _:=(cS.out.trans (du.below hb3 _ _)).trans dE;have tE:Hid _:=tW;have Dx:Hid _:=wK;clear hb3 dE tW wK cS mK Bi
    go_wp2_with fail
    refine Calls.mono (Qz.out _) ?_;rintro _ w5 ⟨rfl,nD⟩;have Ar:=tE.out.grow nD;have NG:=Dx.out.below nD;have gB:Hid _:=kA.out.trans (du.below nD _ _);have Jw:Hid _:=Ar;have Jx:Hid _:=NG;clear nD Ar NG tE Dx kA
    go_wp2_with fail
    refine Calls.mono (Bj.out w5 Jw.out) ?_;rintro _ w6 ⟨pb,rfl,yu,YQ,YR⟩;have HK6:Hid _:=Jx.out.fr Jw.out yu;have XI:Hid _:=gB.out.trans yu;have HM6:Hid _:=YQ;have VC:Hid _:=YR;clear yu YQ YR Jx gB Jw Bj;have HR:Hid _:=hR;clear hR
    go_wp2
    go_ret
    rw[HR.out];have h2:=nG w6 (.pair) 0 pa pb HK6.out VC.out;exact⟨_,rfl,XI.out.trans (du.below h2.1 _ _),HM6.out.grow h2.1,h2.2⟩
end Go.Proofs.YtpicaknklgccoabGreatDoor
