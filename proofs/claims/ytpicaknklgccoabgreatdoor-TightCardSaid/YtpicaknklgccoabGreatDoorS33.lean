import Derived.Test.YtpicaknklgccoabGreatDoorS32
set_option maxHeartbeats 2000000
namespace Go.Proofs.YtpicaknklgccoabGreatDoor
mutual
def PT.era:PT->PT
 | .num p s=>.num p s
 | .name p s=>.name p s
 | .node p k nm rg kids=>if k=.new then (gC kids).headD (.num 0 []) else .node p k nm rg (gC kids)
def gC:List PT->List PT
 | []=>[]
 | t::r=>t.era::gC r
end
structure Sw (fuel:Nat) (st:bY) (m:MM):Prop where
 e:st.e=0
 f:m.fault=0
 s:m.steps=st.steps
 le:st.steps<=fuel
 c:m.cells.length=st.cells
 r:0 < m.regs.length
def NX (fuel:Nat) (y:Vl × bY) (x:MV × MM) (T:Ty):Prop:=(Sw fuel y.2 x.2/\gu x.2.cells y.1 x.1/\y.1.has T)\/JX y.2 x.2\/x.2.fault=13
theorem Sw.name {fuel:Nat} {st:bY} {m:MM} (h:Sw fuel st m) (i:Int) (v:MV):Sw fuel st (m.name i v):=by
 unfold MM.name;split
 ·exact ⟨h.e,h.f,h.s,h.le,h.c,h.r⟩
 ·exact h
theorem kF (m:MM):m.fin.fault=m.fault/\m.fin.steps=m.steps/\m.fin.cells=m.cells/\m.fin.named=m.named/\m.fin.regs.length=m.regs.length - 1:=by
 unfold MM.fin
 cases h:m.regs.getLast? with
 | none =>
  have:m.regs=[]:=by simpa using h
  rw [this];exact ⟨rfl,rfl,rfl,rfl,rfl⟩
 | some r=>simp
theorem rL (m:MM) (v:MV) (h:m.fault≠0):(m.use v).2=m:=by
 unfold MM.use
 split
 ·rfl
 ·simp only;split
  ·rfl
  ·exact tQ m 13 h
theorem fB (m:MM) (k:Int) (v u:MV):(m.aX k v u).2.fault=m.fault:=by unfold MM.aX;split <;> rfl
theorem AB (fuel:Nat) (t:PT):∀ (sc:Sc) (base:Nat) (m:MM),m.fault≠0->(mW fuel t sc base m).2.fault=m.fault:=by
 induction t using PT.ind with
 | h1 p s=>intro sc base m h;simp only [mW];rw [jt fuel m _ h]
 | h2 p s=>intro sc base m h;simp only [mW];rw [jt fuel m _ h]
 | h3 p k nm rg kids ih =>
  intro sc base m h
  simp only [mW]
  split
  ·match kids,ih with
   | [],_=>rfl
   | [a],ih =>
    simp only [pV]
    rw [(kF _).1,ih a (by simp) sc base (m.opn (aq rg)) h];rfl
   | _::_::_,_=>rfl
  ·rw [jt fuel m _ h]
theorem Vs (m:MM) (v:MV):(m.use v).2.regs=m.regs:=by
 unfold MM.use MM.stop
 split
 ·rfl
 ·simp only;split
  ·rfl
  ·split <;> rfl
theorem Gn (m:MM) (k:Int) (v u:MV):(m.aX k v u).2.regs.length=m.regs.length:=by unfold MM.aX;split <;> simp
theorem kq (m:MM) (i:Int) (v:MV):(m.name i v).regs=m.regs:=by unfold MM.name;split <;> rfl
theorem ye (fuel:Nat) (m:MM) (g:MM->MV × MM) (h:∀ m,(g m).2.regs.length=m.regs.length):(ba fuel m g).2.regs.length=m.regs.length:=by
 unfold ba
 have e:∀ m:MM,(m.stop 12).regs=m.regs:=fun m=>by unfold MM.stop;split <;> rfl
 by_cases hq:fuel<=m.steps
 ·simp only [if_pos hq]
  split
  ·simp only [e]
  ·rw [h];simp only [e]
 ·simp only [if_neg hq]
  split
  ·rfl
  ·rw [h]
theorem D4 (i:Int) (g:MM->MV × MM) (h:∀ m,(g m).2.regs.length=m.regs.length):∀ (k:Nat) (v:MV) (m:MM),(cD i g k v m).2.regs.length=m.regs.length
 | 0,_,_=>rfl
 | k+1,v,m=>by
  simp only [cD]
  split
  ·rfl
  ·rw [D4 i g h k,h,kq]
theorem YR (fuel:Nat) (t:PT):∀ (sc:Sc) (base:Nat) (m:MM),(mW fuel t sc base m).2.regs.length=m.regs.length:=by
 induction t using PT.ind with
 | h1 p s=>intro sc base m;simp only [mW];exact ye fuel m _ (fun _=>rfl)
 | h2 p s=>intro sc base m;simp only [mW];exact ye fuel m _ (fun _=>rfl)
 | h3 p k nm rg kids ih =>
  intro sc base m
  simp only [mW]
  split
  ·match kids,ih with
   | [],_=>rfl
   | [a],ih =>
    simp only [pV]
    rw [(kF _).2.2.2.2,ih a (by simp) sc base (m.opn (aq rg))]
    simp [MM.opn]
   | _::_::_,_=>rfl
  ·refine ye fuel m _ (fun m=>?_)
   split
   ·match kids,ih with
    | [a,b],ih=>simp only [sD];rw [ih b (by simp),kq,ih a (by simp)]
    | [],_=>rfl
    | [_],_=>rfl
    | _::_::_::_,_=>rfl
   ·split
    ·match kids,ih with
     | [a,b,c],ih =>
      simp only [Fz]
      split
      ·rw [ih b (by simp),ih a (by simp)]
      ·rw [ih c (by simp),ih a (by simp)]
     | [],_=>rfl
     | [_],_=>rfl
     | [_,_],_=>rfl
     | _::_::_::_::_,_=>rfl
    ·split
     ·match kids,ih with
      | [a,b,c],ih =>
       simp only [kU]
       rw [D4 _ _ (fun m=>ih c (by simp) _ _ m),ih b (by simp),ih a (by simp)]
      | [],_=>rfl
      | [_],_=>rfl
      | [_,_],_=>rfl
      | _::_::_::_::_,_=>rfl
     ·match kids,ih with
      | [a],ih=>simp only [fN];rw [Vs,ih a (by simp)]
      | [a,b],ih =>
       simp only [fN]
       split
       ·rw [Gn,ih b (by simp),ih a (by simp)]
       ·rw [ih b (by simp),ih a (by simp)]
      | [],_=>rfl
      | _::_::_::_,_=>rfl
theorem SK {fuel:Nat} {st:bY} {m:MM} {a b:Vl} {v:MV} (hs:Sw fuel st m) (h:gu m.cells (.p a b) v):((m.use v).2=m/\gu m.cells a (m.use v).1.a/\gu m.cells b (m.use v).1.b)\/(m.use v).2.fault=13:=by
 simp only [gu] at h
 obtain ⟨hc,i,c,hv,hi,ha,hb⟩:=h
 have lN:=(List.getElem?_eq_some_iff.1 hi).1
 have e2:m.cells.getD v.n.toNat c0=c:=by rw [hv,Int.toNat_natCast,List.getD_eq_getElem?_getD,hi];rfl
 unfold MM.use
 rw [if_neg (by rw [hc,hv];simp;omega),e2]
 by_cases hlv:m.isLive c=true
 ·rw [if_pos hlv];exact Or.inl ⟨rfl,ha,hb⟩
 ·rw [if_neg hlv];right;unfold MM.stop;rw [if_pos hs.f]
theorem Vt {fuel:Nat} {st:bY} {m:MM} {a b:Vl} {v u:MV} {k:Int} (hs:Sw fuel st m) (ha:gu m.cells a v) (hb:gu m.cells b u):Sw fuel { st with cells:=st.cells+1 } (m.aX k v u).2/\gu (m.aX k v u).2.cells (.p a b) (m.aX k v u).1:=by
 have La:m.home k < m.regs.length:=by
  have hle:∀ (l:List MR) (k:Int) (i:Nat),iI l k i<=i:=by
   intro l k i
   induction i with
   | zero=>exact Nat.le_refl _
   | succ i ih=>simp only [iI];split <;> omega
  have:=hle m.regs k (m.regs.length - 1)
  have:=hs.r
  unfold MM.home;omega
 have hr:m.regs[m.home k]?=some m.regs[m.home k]:=List.getElem?_eq_getElem La
 unfold MM.aX
 rw [hr]
 refine ⟨⟨hs.e,hs.f,hs.s,hs.le,by simp [hs.c],by simp [hs.r]⟩,?_⟩
 simp only [gu]
 exact ⟨trivial,m.cells.length,⟨v,u,m.home k,m.regs[m.home k].gA⟩,rfl,by simp,ha.mono,hb.mono⟩
theorem eT {fuel:Nat} {st:bY} {m:MM} {f:bY->Vl × bY} {g:MM->MV × MM} {T:Ty} (h:Sw fuel st m) (hk:Sw fuel { st with steps:=st.steps+1 } { m with steps:=m.steps+1 }->NX fuel (f { st with steps:=st.steps+1 }) (g { m with steps:=m.steps+1 }) T):NX fuel (begun fuel st f) (ba fuel m g) T:=by
 unfold begun ba
 have hs:=h.s
 have hle:=h.le
 rw [if_neg (fun hn=>hn h.e)]
 by_cases hq:st.steps=fuel
 ·rw [if_pos hq]
  have hq':fuel<=m.steps:=by omega
  simp only [if_pos hq']
  have e:m.stop 12={ m with fault:=12 }:=by unfold MM.stop;rw [if_pos h.f]
  rw [e]
  exact Or.inr (Or.inl ⟨rfl,rfl⟩)
 ·rw [if_neg hq]
  have hq':¬ fuel<=m.steps:=by omega
  simp only [if_neg hq']
  rw [if_neg (fun hn=>hn h.f)]
  exact hk ⟨h.e,h.f,by simp only;omega,by simp only;omega,h.c,h.r⟩
theorem yf {fuel:Nat} {T:Ty} {j:Nat} {f:Vl->bY->Vl × bY} {g:MM->MV × MM} {P:MM->Prop} (ou:∀ st m x v,P m->Sw fuel st m->gu m.cells x v->x.has T->NX fuel (f x st) (g (m.name (j:Int) v)) T/\P (g (m.name (j:Int) v)).2):∀ (k:Nat) (st:bY) (m:MM) (x:Vl) (v:MV),P m->Sw fuel st m->gu m.cells x v->x.has T->NX fuel (turns f k x st) (cD (j:Int) g k v m) T
 | 0,st,m,x,v,_,hs,hr,ht=>Or.inl ⟨hs,hr,ht⟩
 | k+1,st,m,x,v,hP,hs,hr,ht=>by
  simp only [turns,cD]
  rw [if_neg (fun hn=>hn hs.e),if_neg (fun hn=>hn hs.f)]
  obtain ⟨h1,h2⟩:=ou st m x v hP hs hr ht
  rcases h1 with ⟨a,b,c⟩ | hB | hD
  ·exact yf ou k _ _ _ _ h2 a b c
  ·exact Or.inr (Or.inl ⟨by rw [rr _ _ _ _ (by rw [hB.1];decide)];exact hB.1,by rw [fO _ _ _ _ _ (by rw [hB.2];decide)];exact hB.2⟩)
  ·exact Or.inr (Or.inr (by rw [fO _ _ _ _ _ (by rw [hD];decide)];exact hD))
theorem oO {fuel:Nat} (t:PT) (t':PT) (sc:Sc) (base:Nat) (env:dL) {st:bY} {m:MM} (h:JX st m):JX (ev fuel t env st).2 (mW fuel t' sc base m).2 :=
 ⟨by rw [Qz fuel t env st (by rw [h.1];decide)];exact h.1,by rw [AB fuel t' sc base m (by rw [h.2];decide)];exact h.2⟩
theorem ud {fuel:Nat} (t':PT) (sc:Sc) (base:Nat) {m:MM} (h:m.fault=13):(mW fuel t' sc base m).2.fault=13:=by
 rw [AB fuel t' sc base m (by rw [h];decide)];exact h
open Go.Lib (decDigits)
def eF:List Int->Nat->Int->PT->PT
 | [],_,_,t=>t
 | a::l,r,i,t=>if a=i then .node 0 .new [] (35::decDigits r) [eF l (r+1) i t] else eF l (r+1) i t
def SL (regs:List Int) (i:Nat):List UInt8:=if jJ regs i=-1 then [] else 35::decDigits (jJ regs i).toNat
mutual
def PT.eU (regs news:List Int):PT->Nat->PT
 | .num _ s,_=>.num 0 (decDigits (aq s).toNat)
 | .name _ s,_=>.name 0 s
 | .node _ k nm _ kids,b=>.node 0 k nm (SL regs (b+az kids)) (gD regs news kids b)
def gD (regs news:List Int):List PT->Nat->List PT
 | [],_=>[]
 | t::r,b=>eF news 0 ((b+t.cnt:Nat) - 1:Int) (PT.eU regs news t b)::gD regs news r (b+t.cnt)
end
def PT.lay (regs news:List Int) (t:PT) (b:Nat):PT:=eF news 0 ((b+t.cnt:Nat) - 1:Int) (t.eU regs news b)
theorem NY (regs:List Int) (i:Nat):fP (SL regs i)=LX regs i:=by
 unfold SL LX fP
 split
 ·rfl
 ·simp
theorem rM (i:Int) (t:PT):∀ (l:List Int) (r:Nat),(eF l r i t).tidy=rU l r i++(t.tidy++List.replicate (rV l i) 41)
 | [],r=>by simp [eF,rU,rV]
 | a::l,r=>by
  have ih:=rM i t l (r+1)
  simp only [eF,rU]
  by_cases h:a=i
  ·have hc:rV (a::l) i=rV l i+1:=by unfold rV;simp [h]
   rw [if_pos h,if_pos h,hc]
   simp only [PT.tidy,ct,bn,bP,ih,fP,Kw.bytes,Wa]
   simp [List.replicate_succ',List.append_assoc]
  ·have hc:rV (a::l) i=rV l i:=by unfold rV;simp [h]
   rw [if_neg h,if_neg h,hc,ih];rfl
mutual
theorem AE (regs news:List Int):∀ (t:PT) (b:Nat),cS t->(t.eU regs news b).tidy=t.vF regs news b
 | .num _ _,_,_=>rfl
 | .name _ _,_,_=>rfl
 | .node _ k nm _ kids,b,h=>by
  cases h with
  | node hk h =>
   simp only [PT.eU,PT.tidy,PT.vF,if_neg hk,NY,AF regs news kids b h]
theorem AF (regs news:List Int):∀ (ts:List PT) (b:Nat),(∀ x∈ts,cS x)->ct (gD regs news ts b)=gz regs news ts b
 | [],_,_=>rfl
 | t::r,b,h=>by
  simp only [gD,ct,gz,rM,AE regs news t b (h t (by simp)),AF regs news r (b+t.cnt) (fun x hx=>h x (by simp [hx])),R7]
end
theorem D5 (regs news:List Int) (t:PT) (b:Nat) (h:cS t):(t.lay regs news b).tidy=t.u7 regs news b:=by
 unfold PT.lay PT.u7
 rw [rM,AE regs news t b h];rfl
def Pu (regs:List Int) (ns:List NR):Prop:=∀ (i:Nat) (n:NR),ns[i]?=some n->(n.form=4->0<=jJ regs i/\jJ regs i<=999)/\(n.form≠4->jJ regs i=-1)
theorem Iv (k:Kw):aY k=4↔k=.pair:=by cases k <;> decide
theorem s6 (i:Int) (t:PT):∀ (l:List Int) (r:Nat),(eF l r i t).np=eF l r i t.np
 | [],_=>rfl
 | a::l,r=>by
  simp only [eF]
  split
  ·simp only [PT.np,eX,s6 i t l (r+1)]
  ·exact s6 i t l (r+1)
mutual
theorem Iw (regs news:List Int):∀ (t:PT) (b:Nat),(t.eU regs news b).np=t.eU regs news b
 | .num _ _,_=>rfl
 | .name _ _,_=>rfl
 | .node _ k nm _ kids,b=>by simp only [PT.eU,PT.np,Ix regs news kids b]
theorem Ix (regs news:List Int):∀ (ts:List PT) (b:Nat),eX (gD regs news ts b)=gD regs news ts b
 | [],_=>rfl
 | t::r,b=>by simp only [gD,eX,s6,Iw regs news t b,Ix regs news r]
end
theorem NZ (regs news:List Int) (t:PT) (b:Nat):(t.lay regs news b).np=t.lay regs news b:=by unfold PT.lay;rw [s6,Iw]
theorem yg (i:Int) (t:PT) (h:t.ok true):∀ (l:List Int) (r:Nat),r+l.length<=999->(eF l r i t).ok true
 | [],_,_=>h
 | a::l,r,hr=>by
  simp only [List.length_cons] at hr
  have ih:=yg i t h l (r+1) (by omega)
  simp only [eF]
  split
  ·simp only [PT.ok,qx]
   refine ⟨by simp [bV],rfl,by simp,?_,ih,trivial⟩
   rw [if_pos ⟨trivial,Or.inr trivial⟩]
   exact ⟨decDigits r,rfl,sW r 3 (DK r (by omega))⟩
  ·exact ih
theorem D6 (regs news:List Int):∀ (ts:List PT) (b:Nat),(gD regs news ts b).length=ts.length
 | [],_=>rfl
 | t::r,b=>by simp [gD,D6 regs news r]
mutual
theorem Iy {regs news:List Int} {ns:List NR} (H:Pu regs ns) (hn:news.length<=999):∀ (t:PT) (b:Nat),fG ns t b->t.bL->t.ok false->(t.eU regs news b).ok true
 | .num _ s,_,_,ht,h=>by
  simp only [PT.bL] at ht
  simp only [PT.eU,PT.ok]
  exact sW _ 4 (kT _ (by omega))
 | .name _ s,_,_,_,h=>by simpa [PT.eU,PT.ok] using h
 | .node _ k nm rg kids,b,hs,ht,h=>by
  simp only [PT.bL] at ht
  simp only [fG] at hs
  obtain ⟨⟨n,eK,hf,_⟩,hks⟩:=hs
  simp only [PT.ok] at h
  obtain ⟨h1,h2,h3,h4,h5⟩:=h
  have hH:=H _ _ eK
  have dc:=Iv k
  rw [<- hf] at dc
  have hkn:k≠.new:=fun e=>by rw [e] at h1;simp [bV] at h1
  simp only [PT.eU,PT.ok]
  refine ⟨by cases k <;> simp [bV] at h1 ⊢,by rw [D6];exact h2,h3,?_,Iz H hn kids b hks ht.2 h5⟩
  by_cases hp:k=.pair
  ·have:=hH.1 (dc.2 hp)
   rw [if_pos ⟨trivial,Or.inl hp⟩]
   unfold SL
   rw [if_neg (by omega)]
   exact ⟨_,rfl,sW _ 3 (DK _ (by omega))⟩
  ·rw [if_neg (by simp [hp,hkn])]
   unfold SL
   rw [if_pos (hH.2 (fun e=>hp (dc.1 e)))]
theorem Iz {regs news:List Int} {ns:List NR} (H:Pu regs ns) (hn:news.length<=999):∀ (ts:List PT) (b:Nat),fM ns ts b->bI ts->qx false ts->qx true (gD regs news ts b)
 | [],_,_,_,_=>by simp [gD,qx]
 | t::r,b,hs,ht,h=>by
  simp only [fM] at hs
  simp only [bI] at ht
  simp only [qx] at h
  simp only [gD,qx]
  exact ⟨yg _ _ (Iy H hn t b hs.1 ht.1 h.1) news 0 (by omega),Iz H hn r _ hs.2 ht.2 h.2⟩
end
theorem N0 {regs news:List Int} {ns:List NR} (H:Pu regs ns) (hn:news.length<=999) (t:PT) (b:Nat) (hs:fG ns t b) (ht:t.bL) (h:t.ok false):(t.lay regs news b).ok true:=yg _ _ (Iy H hn t b hs ht h) news 0 (by omega)
theorem jA (i:Int) (t:PT):∀ (l:List Int) (r:Nat),(eF l r i t).era=t.era
 | [],_=>rfl
 | a::l,r=>by
  simp only [eF]
  split
  ·simp only [PT.era,if_true,gC,List.headD_cons,jA i t l (r+1)]
  ·exact jA i t l (r+1)
theorem pK (i:Int) (t:PT):∀ (l:List Int) (r:Nat),(eF l r i t).bK=t.bK
 | [],_=>rfl
 | a::l,r=>by
  simp only [eF]
  split
  ·simp [PT.bK,iX,pK i t l (r+1)]
  ·exact pK i t l (r+1)
mutual
theorem D7 (regs news:List Int):∀ (t:PT) (b:Nat),(t.eU regs news b).bK=t.bK
 | .num _ _,_=>rfl
 | .name _ _,_=>rfl
 | .node _ k nm _ kids,b=>by simp only [PT.eU,PT.bK,D8 regs news kids b]
theorem D8 (regs news:List Int):∀ (ts:List PT) (b:Nat),iX (gD regs news ts b)=iX ts
 | [],_=>rfl
 | t::r,b=>by simp only [gD,iX,pK,D7 regs news t b,D8 regs news r]
end
theorem IA (regs news:List Int) (t:PT) (b:Nat):(t.lay regs news b).bK=t.bK:=by unfold PT.lay;rw [pK,D7]
theorem fQ {G:aQ} {t:PT} {T:Ty} (i:Int) (h:WT G t T):∀ (l:List Int) (r:Nat),WT G (eF l r i t) T
 | [],_=>h
 | a::l,r=>by
  simp only [eF]
  split
  ·exact .new (fQ i h l (r+1))
  ·exact fQ i h l (r+1)
theorem N7 {regs news:List Int} {G:aQ} {t:PT} {T:Ty} (h:WT G t T):cS t->∀ b,WT G (t.lay regs news b) T:=by
 induction h with
 | num=>intro _ b;exact fQ _ .num _ _
 | name hs=>intro _ b;exact fQ _ (.name hs) _ _
 | aT _ _ aM bH =>
  intro hn b
  cases hn with
  | node hk hn=>exact fQ _ (.aT (aM (hn _ (by simp)) _) (bH (hn _ (by simp)) _)) _ _
 | pair _ _ hs aM bH =>
  intro hn b
  cases hn with
  | node hk hn=>exact fQ _ (.pair (aM (hn _ (by simp)) _) (bH (hn _ (by simp)) _) hs) _ _
 | fst _ aM =>
  intro hn b
  cases hn with
  | node hk hn=>exact fQ _ (.fst (aM (hn _ (by simp)) _)) _ _
 | snd _ aM =>
  intro hn b
  cases hn with
  | node hk hn=>exact fQ _ (.snd (aM (hn _ (by simp)) _)) _ _
 | dQ _ _ _ aM bH gL =>
  intro hn b
  cases hn with
  | node hk hn=>exact fQ _ (.dQ (aM (hn _ (by simp)) _) (bH (hn _ (by simp)) _) (gL (hn _ (by simp)) _)) _ _
 | two hk _ _ aM bH =>
  intro hn b
  cases hn with
  | node _ hn=>exact fQ _ (.two hk (aM (hn _ (by simp)) _) (bH (hn _ (by simp)) _)) _ _
 | loop _ _ _ aM bH gL =>
  intro hn b
  cases hn with
  | node hk hn=>exact fQ _ (.loop (aM (hn _ (by simp)) _) (bH (hn _ (by simp)) _) (gL (hn _ (by simp)) _)) _ _
 | new _ _ =>
  intro hn b
  cases hn with
  | node hk hn=>exact absurd rfl hk
theorem Gp (fuel:Nat) {G:aQ} {t:PT} {T:Ty} (h:WT G t T):∀ (sc:Sc) (base:Nat) (m:MM) (env:dL) (st:bY),t.jr->ER m.named m.cells sc env G base->base+t.cnt<=m.named.length->Sw fuel st m->NX fuel (ev fuel t.era env st) (mW fuel t sc base m) T:=by
 induction h with
 | num =>
  intro sc base m env st hr he hl hs
  simp only [PT.jr] at hr
  simp only [PT.era,ev,mW]
  exact eT hs (fun hs=>Or.inl ⟨hs,by simp only [gu,true_and];omega,by simp only [Vl.has];omega⟩)
 | name hlk =>
  intro sc base m env st hr he hl hs
  simp only [PT.era,ev,mW]
  refine eT hs (fun hs=>Or.inl ⟨hs,?_⟩)
  obtain ⟨i,v,h1,h2,h3,h4,h5⟩:=he _ _ hlk
  have lN:=(List.getElem?_eq_some_iff.1 h3).1
  unfold MM.look
  simp only [h1]
  rw [if_neg (by omega),Int.toNat_natCast,List.getD_eq_getElem?_getD,h3]
  exact ⟨h4,h5⟩
 | @aT G p nm rg a b A B ha hb aM bH =>
  intro sc base m env st hr he hl hs
  simp only [PT.jr,cL] at hr
  simp only [PT.cnt,az,Nat.add_zero] at hl
  simp only [PT.era,gC,ev,iC,mW,sD,if_true,reduceCtorEq,if_false]
  refine eT hs (fun hs=>?_)
  have hf:=jC fuel ha sc base { m with steps:=m.steps+1 } hr.2.1 he.ef (by simp only;omega)
  have h1:=aM sc base { m with steps:=m.steps+1 } env { st with steps:=st.steps+1 } hr.2.1 he (by simp only;omega) hs
  generalize mW fuel a sc base { m with steps:=m.steps+1 }=x at hf h1 ⊢
  generalize ev fuel a.era env { st with steps:=st.steps+1 }=y at h1 ⊢
  have Wj:=cH a
  have hxl:x.2.named.length=m.named.length:=hf.1.len
  rw [show (((base+a.cnt:Nat):Int) - 1)=((base+a.cnt - 1:Nat):Int) from by omega]
  rcases h1 with ⟨h1,h2,h3⟩ | hB | hD
  ·have hx:=ER.on (m:={ m with steps:=m.steps+1 }) he hf.1 (Nat.le_refl _)
   have gY:=hx.snoc (nm:=nm) (j:=base+a.cnt - 1) (by omega) (by omega) h2 h3
   rw [show base+a.cnt - 1+1=base+a.cnt from by omega] at gY
   have hne:=dw x.2 (base+a.cnt - 1) x.1 base a.cnt (by omega)
   exact bH _ (base+a.cnt) _ _ _ hr.2.2.1 gY (by rw [hne.len,hxl];omega) (h1.name _ _)
  ·exact Or.inr (Or.inl (oO _ _ _ _ _ (hB.name _ _)))
  ·exact Or.inr (Or.inr (ud _ _ _ (by rw [(gR _ _ _).1];exact hD)))
 | @pair G p nm rg a b A B ha hb hsz aM bH =>
  intro sc base m env st hr he hl hs
  simp only [PT.jr,cL] at hr
  simp only [PT.cnt,az,Nat.add_zero] at hl
  have e':ev fuel (PT.node p .pair nm rg [a,b]).era env st=begun fuel st (fun st=>if (ev fuel b.era env (ev fuel a.era env st).2).2.e≠0 then (.n 0,(ev fuel b.era env (ev fuel a.era env st).2).2) else cA .pair [(ev fuel a.era env st).1,(ev fuel b.era env (ev fuel a.era env st).2).1] (ev fuel b.era env (ev fuel a.era env st).2).2):=by
   simp only [PT.era,gC,ev,bO,reduceCtorEq,if_false];rfl
  rw [e']
  simp only [mW,fN,if_true,reduceCtorEq,if_false]
  refine eT hs (fun hs=>?_)
  have hf:=jC fuel ha sc base { m with steps:=m.steps+1 } hr.2.1 he.ef (by simp only;omega)
  have h1:=aM sc base { m with steps:=m.steps+1 } env { st with steps:=st.steps+1 } hr.2.1 he (by simp only;omega) hs
  generalize mW fuel a sc base { m with steps:=m.steps+1 }=x at hf h1 ⊢
  generalize ev fuel a.era env { st with steps:=st.steps+1 }=y at h1 ⊢
  have hxl:x.2.named.length=m.named.length:=hf.1.len
  rcases h1 with ⟨h1,h2,h3⟩ | hB | hD
  ·have hx:=(ER.on (m:={ m with steps:=m.steps+1 }) he hf.1 (Nat.le_refl _)).up (show base<=base+a.cnt by omega)
   have hg:=jC fuel hb sc (base+a.cnt) x.2 hr.2.2.1 hx.ef (by omega)
   have k1:=bH sc (base+a.cnt) x.2 env y.2 hr.2.2.1 hx (by omega) h1
   generalize mW fuel b sc (base+a.cnt) x.2=x' at hg k1 ⊢
   generalize ev fuel b.era env y.2=y' at k1 ⊢
   rcases k1 with ⟨k1,k2,k3⟩ | hB | hD
   ·rw [if_neg (fun hn=>hn k1.e)]
    simp only [cA]
    have hc:=Vt (k:=aq rg) k1 (h2.on hg.1) k2
    exact Or.inl ⟨hc.1,hc.2,by simp only [Vl.has];exact ⟨h3,k3⟩⟩
   ·rw [if_pos (by rw [hB.1];decide)]
    exact Or.inr (Or.inl ⟨hB.1,by rw [fB];exact hB.2⟩)
   ·exact Or.inr (Or.inr (by rw [fB];exact hD))
  ·have lE:=oO (fuel:=fuel) b.era b sc (base+a.cnt) env hB
   rw [if_pos (by rw [lE.1];decide)]
   exact Or.inr (Or.inl ⟨lE.1,by rw [fB];exact lE.2⟩)
  ·exact Or.inr (Or.inr (by rw [fB];exact ud _ _ _ hD))
 | @fst G p nm rg a A B ha aM =>
  intro sc base m env st hr he hl hs
  simp only [PT.jr,cL] at hr
  simp only [PT.cnt,az,Nat.add_zero] at hl
  have e':ev fuel (PT.node p .fst nm rg [a]).era env st=begun fuel st (fun st=>if (ev fuel a.era env st).2.e≠0 then (.n 0,(ev fuel a.era env st).2) else cA .fst [(ev fuel a.era env st).1] (ev fuel a.era env st).2):=by
   simp only [PT.era,gC,ev,bO,reduceCtorEq,if_false];rfl
  rw [e']
  simp only [mW,fN,if_true,reduceCtorEq,if_false]
  refine eT hs (fun hs=>?_)
  have h1:=aM sc base { m with steps:=m.steps+1 } env { st with steps:=st.steps+1 } hr.2.1 he (by simp only;omega) hs
  generalize mW fuel a sc base { m with steps:=m.steps+1 }=x at h1 ⊢
  generalize ev fuel a.era env { st with steps:=st.steps+1 }=y at h1 ⊢
  rcases h1 with ⟨h1,h2,h3⟩ | hB | hD
  ·rw [if_neg (fun hn=>hn h1.e)]
   obtain ⟨y1,y2⟩:=y
   cases y1 with
   | n k=>simp [Vl.has] at h3
   | p u v =>
    simp only [Vl.has] at h3
    have hu:=SK h1 h2
    simp only [cA,Vl.fst]
    rcases hu with hu | hu
    ·rw [hu.1]
     exact Or.inl ⟨h1,hu.2.1,h3.1⟩
    ·exact Or.inr (Or.inr hu)
  ·rw [if_pos (by rw [hB.1];decide)]
   exact Or.inr (Or.inl ⟨hB.1,by rw [rL _ _ (by rw [hB.2];decide)];exact hB.2⟩)
  ·exact Or.inr (Or.inr (by rw [rL _ _ (by rw [hD];decide)];exact hD))
 | @snd G p nm rg a A B ha aM =>
  intro sc base m env st hr he hl hs
  simp only [PT.jr,cL] at hr
  simp only [PT.cnt,az,Nat.add_zero] at hl
  have e':ev fuel (PT.node p .snd nm rg [a]).era env st=begun fuel st (fun st=>if (ev fuel a.era env st).2.e≠0 then (.n 0,(ev fuel a.era env st).2) else cA .snd [(ev fuel a.era env st).1] (ev fuel a.era env st).2):=by
   simp only [PT.era,gC,ev,bO,reduceCtorEq,if_false];rfl
  rw [e']
  simp only [mW,fN,reduceCtorEq,if_false]
  refine eT hs (fun hs=>?_)
  have h1:=aM sc base { m with steps:=m.steps+1 } env { st with steps:=st.steps+1 } hr.2.1 he (by simp only;omega) hs
  generalize mW fuel a sc base { m with steps:=m.steps+1 }=x at h1 ⊢
  generalize ev fuel a.era env { st with steps:=st.steps+1 }=y at h1 ⊢
  rcases h1 with ⟨h1,h2,h3⟩ | hB | hD
  ·rw [if_neg (fun hn=>hn h1.e)]
   obtain ⟨y1,y2⟩:=y
   cases y1 with
   | n k=>simp [Vl.has] at h3
   | p u v =>
    simp only [Vl.has] at h3
    have hu:=SK h1 h2
    simp only [cA,Vl.snd]
    rcases hu with hu | hu
    ·rw [hu.1]
     exact Or.inl ⟨h1,hu.2.2,h3.2⟩
    ·exact Or.inr (Or.inr hu)
  ·rw [if_pos (by rw [hB.1];decide)]
   exact Or.inr (Or.inl ⟨hB.1,by rw [rL _ _ (by rw [hB.2];decide)];exact hB.2⟩)
  ·exact Or.inr (Or.inr (by rw [rL _ _ (by rw [hD];decide)];exact hD))
 | @dQ G p nm rg a b c T ha hb hc aM bH gL =>
  intro sc base m env st hr he hl hs
  simp only [PT.jr,cL] at hr
  simp only [PT.cnt,az,Nat.add_zero] at hl
  simp only [PT.era,gC,ev,mD,mW,Fz,if_true,reduceCtorEq,if_false]
  refine eT hs (fun hs=>?_)
  have hf:=jC fuel ha sc base { m with steps:=m.steps+1 } hr.2.1 he.ef (by simp only;omega)
  have h1:=aM sc base { m with steps:=m.steps+1 } env { st with steps:=st.steps+1 } hr.2.1 he (by simp only;omega) hs
  generalize mW fuel a sc base { m with steps:=m.steps+1 }=x at hf h1 ⊢
  generalize ev fuel a.era env { st with steps:=st.steps+1 }=y at h1 ⊢
  have hxl:x.2.named.length=m.named.length:=hf.1.len
  rcases h1 with ⟨h1,h2,h3⟩ | hB | hD
  ·have hx:=ER.on (m:={ m with steps:=m.steps+1 }) he hf.1 (Nat.le_refl _)
   obtain ⟨y1,y2⟩:=y
   cases y1 with
   | p u v=>simp [Vl.has] at h3
   | n k =>
    simp only [gu] at h2
    split
    ·rename_i hz
     simp only [Vl.num] at hz
     rw [if_pos (show x.1.n≠0 by omega)]
     exact bH sc (base+a.cnt) x.2 env _ hr.2.2.1 (hx.up (by omega)) (by omega) h1
    ·rename_i hz
     simp only [Vl.num,ne_eq,Decidable.not_not] at hz
     rw [if_neg (show ¬ x.1.n≠0 by omega)]
     exact gL sc (base+a.cnt+b.cnt) x.2 env _ hr.2.2.2.1 (hx.up (by omega)) (by omega) h1
  ·refine Or.inr (Or.inl ?_)
   constructor
   ·split
    ·exact (oO b.era b sc 0 env hB).1
    ·exact (oO c.era c sc 0 env hB).1
   ·split
    ·exact (oO b.era b sc (base+a.cnt) env hB).2
    ·exact (oO c.era c sc (base+a.cnt+b.cnt) env hB).2
  ·refine Or.inr (Or.inr ?_)
   split
   ·exact ud _ _ _ hD
   ·exact ud _ _ _ hD
 | @two G p k nm rg a b hkk ha hb aM bH =>
  intro sc base m env st hr he hl hs
  simp only [PT.jr,cL] at hr
  simp only [PT.cnt,az,Nat.add_zero] at hl
  have e:mW fuel (.node p k nm rg [a,b]) sc base m=ba fuel m (fun m=>(⟨false,gQ k (mW fuel a sc base m).1.n (mW fuel b sc (base+a.cnt) (mW fuel a sc base m).2).1.n⟩,(mW fuel b sc (base+a.cnt) (mW fuel a sc base m).2).2)):=by
   rcases hkk with rfl | rfl | rfl <;> simp only [mW,fN,reduceCtorEq,if_false]
  have e':ev fuel (PT.node p k nm rg [a,b]).era env st=begun fuel st (fun st=>if (ev fuel b.era env (ev fuel a.era env st).2).2.e≠0 then (.n 0,(ev fuel b.era env (ev fuel a.era env st).2).2) else cA k [(ev fuel a.era env st).1,(ev fuel b.era env (ev fuel a.era env st).2).1] (ev fuel b.era env (ev fuel a.era env st).2).2):=by
   rcases hkk with rfl | rfl | rfl <;> (simp only [PT.era,gC,ev,bO,reduceCtorEq,if_false];rfl)
  rw [e,e']
  refine eT hs (fun hs=>?_)
  have hf:=jC fuel ha sc base { m with steps:=m.steps+1 } hr.2.1 he.ef (by simp only;omega)
  have h1:=aM sc base { m with steps:=m.steps+1 } env { st with steps:=st.steps+1 } hr.2.1 he (by simp only;omega) hs
  generalize mW fuel a sc base { m with steps:=m.steps+1 }=x at hf h1 ⊢
  generalize ev fuel a.era env { st with steps:=st.steps+1 }=y at h1 ⊢
  have hxl:x.2.named.length=m.named.length:=hf.1.len
  rcases h1 with ⟨h1,h2,h3⟩ | hB | hD
  ·have hx:=(ER.on (m:={ m with steps:=m.steps+1 }) he hf.1 (Nat.le_refl _)).up (show base<=base+a.cnt by omega)
   have k1:=bH sc (base+a.cnt) x.2 env y.2 hr.2.2.1 hx (by omega) h1
   generalize mW fuel b sc (base+a.cnt) x.2=x' at k1 ⊢
   generalize ev fuel b.era env y.2=y' at k1 ⊢
   rcases k1 with ⟨k1,k2,k3⟩ | hB | hD
   ·rw [if_neg (fun hn=>hn k1.e)]
    obtain ⟨y1,y2⟩:=y
    obtain ⟨z1,z2⟩:=y'
    cases y1 with
    | p u v=>simp [Vl.has] at h3
    | n i =>
     cases z1 with
     | p u v=>simp [Vl.has] at k3
     | n j =>
      simp only [gu] at h2 k2
      refine Or.inl ?_
      rcases hkk with rfl | rfl | rfl
      ·simp only [cA,Vl.num,gQ,if_true]
       refine ⟨k1,?_,by simp only [Vl.has];omega⟩
       simp only [gu,true_and]
       rw [Int.tmod_eq_emod_of_nonneg (by omega)]
       omega
      ·simp only [cA,Vl.num,gQ,if_true,reduceCtorEq,if_false]
       refine ⟨k1,?_,by simp only [Vl.has];omega⟩
       simp only [gu,true_and]
       rw [Int.tmod_eq_emod_of_nonneg (by omega)]
       omega
      ·simp only [cA,gQ,reduceCtorEq,if_false]
       by_cases hlt:i < j
       ·have hq:x.1.n < x'.1.n:=by omega
        exact ⟨k1,by simp [gu,Vl.num,hlt,hq],by simp [Vl.has,Vl.num,hlt]⟩
       ·have hq:¬ x.1.n < x'.1.n:=by omega
        exact ⟨k1,by simp [gu,Vl.num,hlt,hq],by simp [Vl.has,Vl.num,hlt]⟩
   ·rw [if_pos (by rw [hB.1];decide)]
    exact Or.inr (Or.inl hB)
   ·exact Or.inr (Or.inr hD)
  ·have lE:=oO (fuel:=fuel) b.era b sc (base+a.cnt) env hB
   rw [if_pos (by rw [lE.1];decide)]
   exact Or.inr (Or.inl lE)
  ·exact Or.inr (Or.inr (ud _ _ _ hD))
 | @loop G p nm rg a b c T ha hb hc aM bH gL =>
  intro sc base m env st hr he hl hs
  simp only [PT.jr,cL] at hr
  simp only [PT.cnt,az,Nat.add_zero] at hl
  simp only [PT.era,gC,ev,ez,mW,kU,if_true,reduceCtorEq,if_false]
  refine eT hs (fun hs=>?_)
  have hf:=jC fuel ha sc base { m with steps:=m.steps+1 } hr.2.1 he.ef (by simp only;omega)
  have h1:=aM sc base { m with steps:=m.steps+1 } env { st with steps:=st.steps+1 } hr.2.1 he (by simp only;omega) hs
  generalize mW fuel a sc base { m with steps:=m.steps+1 }=x at hf h1 ⊢
  generalize ev fuel a.era env { st with steps:=st.steps+1 }=y at h1 ⊢
  have hxl:x.2.named.length=m.named.length:=hf.1.len
  rcases h1 with ⟨h1,h2,h3⟩ | hB | hD
  ·have hx:=ER.on (m:={ m with steps:=m.steps+1 }) he hf.1 (Nat.le_refl _)
   have hg:=jC fuel hb sc (base+a.cnt) x.2 hr.2.2.1 (hx.up (by omega)).ef (by omega)
   have k1:=bH sc (base+a.cnt) x.2 env y.2 hr.2.2.1 (hx.up (by omega)) (by omega) h1
   generalize mW fuel b sc (base+a.cnt) x.2=x' at hg k1 ⊢
   generalize ev fuel b.era env y.2=y' at k1 ⊢
   have D9:x'.2.named.length=m.named.length:=hg.1.len.trans hxl
   have yQ:=cH b
   rw [show (((base+a.cnt+b.cnt:Nat):Int) - 1)=((base+a.cnt+b.cnt - 1:Nat):Int) from by omega]
   rcases k1 with ⟨k1,k2,k3⟩ | hB | hD
   ·have pO:x.1.n.toNat=y.1.num:=by
     obtain ⟨y1,y2⟩:=y
     cases y1 with
     | p u v=>simp [Vl.has] at h3
     | n k=>simp only [gu] at h2;simp only [Vl.num];omega
    rw [pO]
    refine yf (P:=fun m'=>ER m'.named m'.cells sc env G base/\m'.named.length=m.named.length) (fun st' m' v u hP hs' hr' ht'=>?_) _ _ _ _ _ ⟨hx.on hg.1 (by omega),D9⟩ k1 k2 k3
    have gY:=ER.snoc (nm:=nm) (j:=base+a.cnt+b.cnt - 1) (ER.up hP.1 (show base<=base+a.cnt+b.cnt - 1 by omega)) (Nat.le_refl _) (by omega) hr' ht'
    rw [show base+a.cnt+b.cnt - 1+1=base+a.cnt+b.cnt from by omega] at gY
    have hne:=dw m' (base+a.cnt+b.cnt - 1) u (base+a.cnt+b.cnt - 1) 1 (by omega)
    have hg':=jC fuel hc _ (base+a.cnt+b.cnt) _ hr.2.2.2.1 gY.ef (by rw [hne.len];omega)
    refine ⟨gL _ (base+a.cnt+b.cnt) _ _ _ hr.2.2.2.1 gY (by rw [hne.len];omega) (hs'.name _ _),ER.on (hP.1.on hne (by omega)) hg'.1 (by omega),hg'.1.len.trans (hne.len.trans hP.2)⟩
   ·exact Or.inr (Or.inl ⟨by rw [rr _ _ _ _ (by rw [hB.1];decide)];exact hB.1,by rw [fO _ _ _ _ _ (by rw [hB.2];decide)];exact hB.2⟩)
   ·exact Or.inr (Or.inr (by rw [fO _ _ _ _ _ (by rw [hD];decide)];exact hD))
  ·have lE:=oO (fuel:=fuel) b.era b sc (base+a.cnt) env hB
   exact Or.inr (Or.inl ⟨by rw [rr _ _ _ _ (by rw [lE.1];decide)];exact lE.1,by rw [fO _ _ _ _ _ (by rw [lE.2];decide)];exact lE.2⟩)
  ·have hD2:=ud (fuel:=fuel) b sc (base+a.cnt) hD
   exact Or.inr (Or.inr (by rw [fO _ _ _ _ _ (by rw [hD2];decide)];exact hD2))
 | @new G p nm rg a T ha aM =>
  intro sc base m env st hr he hl hs
  simp only [PT.jr,cL] at hr
  simp only [PT.cnt,az,Nat.add_zero] at hl
  simp only [PT.era,gC,if_true,List.headD_cons,mW,pV]
  have h1:=aM sc base (m.opn (aq rg)) env st hr.2.1 he (by simp only [MM.opn];omega) ⟨hs.e,hs.f,hs.s,hs.le,hs.c,by simp [MM.opn]⟩
  have hrl:=YR fuel a sc base (m.opn (aq rg))
  generalize mW fuel a sc base (m.opn (aq rg))=x at h1 hrl ⊢
  obtain ⟨f1,f2,f3,f4,f5⟩:=kF x.2
  have hr0:=hs.r
  rcases h1 with ⟨h1,h2,h3⟩ | hB | hD
  ·refine Or.inl ⟨⟨h1.e,by rw [f1];exact h1.f,by rw [f2];exact h1.s,h1.le,by rw [f3];exact h1.c,?_⟩,by rw [f3];exact h2,h3⟩
   rw [f5,hrl];simp only [MM.opn,List.length_append,List.length_singleton];omega
  ·exact Or.inr (Or.inl ⟨hB.1,by rw [f1];exact hB.2⟩)
  ·exact Or.inr (Or.inr (by rw [f1];exact hD))
inductive mw:aQ->PT->Ty->Prop
 | num {G:aQ} {p:Nat} {s:List UInt8} (h:0<=aq s/\aq s<=9999):mw G (.num p s) .n
 | name {G:aQ} {p:Nat} {s:List UInt8} {T:Ty} (h:look G s=some T):mw G (.name p s) T
 | aT {G:aQ} {p:Nat} {nm rg:List UInt8} {a b:PT} {A B:Ty} (ha:mw G a A) (hb:mw (G++[(nm,A)]) b B):mw G (.node p .aT nm rg [a,b]) B
 | pair {G:aQ} {p:Nat} {nm rg:List UInt8} {a b:PT} {A B:Ty} {r:Nat} (hr:aq rg=(r:Int)) (ha:mw G a A) (hb:mw G b B):mw G (.node p .pair nm rg [a,b]) (.p r A B)
 | fst {G:aQ} {p:Nat} {nm rg:List UInt8} {a:PT} {r:Nat} {A B:Ty} (ha:mw G a (.p r A B)):mw G (.node p .fst nm rg [a]) A
 | snd {G:aQ} {p:Nat} {nm rg:List UInt8} {a:PT} {r:Nat} {A B:Ty} (ha:mw G a (.p r A B)):mw G (.node p .snd nm rg [a]) B
 | dQ {G:aQ} {p:Nat} {nm rg:List UInt8} {a b c:PT} {T:Ty} (ha:mw G a .n) (hb:mw G b T) (hc:mw G c T):mw G (.node p .dQ nm rg [a,b,c]) T
 | two {G:aQ} {p:Nat} {k:Kw} {nm rg:List UInt8} {a b:PT} (hk:k=.add\/k=.sub\/k=.less) (ha:mw G a .n) (hb:mw G b .n):mw G (.node p k nm rg [a,b]) .n
 | loop {G:aQ} {p:Nat} {nm rg:List UInt8} {a b c:PT} {T:Ty} (ha:mw G a .n) (hb:mw G b T) (hc:mw (G++[(nm,T)]) c T):mw G (.node p .loop nm rg [a,b,c]) T
 | new {G:aQ} {p:Nat} {nm rg:List UInt8} {a:PT} {T:Ty} (ha:mw G a T) (hm:T.has (aq rg)=false):mw G (.node p .new nm rg [a]) T
def cd (m:MM):Ty->MV->Prop
 | .n,v=>v.c=false/\0<=v.n/\v.n<=9999
 | .p r A B,v=>v.c=true/\∃ (i:Nat) (c:MC) (g:MR),v.n=i/\m.cells[i]?=some c/\m.regs[c.home]?=some g/\g.gA=c.gA/\(g.num=(r:Int)\/c.home=0)/\cd m A c.a/\cd m B c.b
def BJ (r:MR):Int × Nat:=(r.num,r.gA)
def bR (m m':MM):Prop:=m'.regs.map BJ=m.regs.map BJ
theorem bR.refl (m:MM):bR m m:=rfl
theorem bR.trans {a b c:MM} (h:bR a b) (g:bR b c):bR a c:=Eq.trans g h
theorem bR.of {m m':MM} (h:m'.regs=m.regs):bR m m':=by unfold bR;rw [h]
theorem bR.at {m m':MM} (h:bR m m') {i:Nat} {g:MR} (hi:m.regs[i]?=some g):∃ g',m'.regs[i]?=some g'/\g'.num=g.num/\g'.gA=g.gA:=by
 have e:=congrArg (fun l=>l[i]?) h
 simp only [List.getElem?_map,hi,Option.map_some] at e
 cases h':m'.regs[i]? with
 | none=>rw [h'] at e;simp at e
 | some g' =>
  rw [h'] at e
  simp only [Option.map_some,Option.some.injEq,BJ,Prod.mk.injEq] at e
  exact ⟨g',rfl,e.1,e.2⟩
theorem bR.len {m m':MM} (h:bR m m'):m'.regs.length=m.regs.length:=by have:=congrArg List.length h;simpa using this
theorem cd.on {m m':MM} (hc:∃ l,m'.cells=m.cells++l) (hs:bR m m'):∀ {T:Ty} {v:MV},cd m T v->cd m' T v
 | .n,_,h=>h
 | .p r A B,v,h=>by
  simp only [cd] at h ⊢
  obtain ⟨h0,i,c,g,h1,h2,h3,h4,h5,h6,h7⟩:=h
  obtain ⟨g',k1,k2,k3⟩:=hs.at h3
  obtain ⟨l,hl⟩:=hc
  refine ⟨h0,i,c,g',h1,?_,k1,k3.trans h4,?_,cd.on ⟨l,hl⟩ hs h6,cd.on ⟨l,hl⟩ hs h7⟩
  ·rw [hl,List.getElem?_append_left (List.getElem?_eq_some_iff.1 h2).1];exact h2
  ·rw [k2];exact h5
theorem Vu {r:Nat} {A B:Ty} {k:Int} (h:(Ty.p r A B).has k=false):(r:Int)≠k/\A.has k=false/\B.has k=false:=by
 unfold Ty.has at h ⊢
 simp only [Ty.zh,List.any_cons,List.any_append,Bool.or_eq_false_iff,beq_eq_false_iff_ne] at h
 exact ⟨h.1,h.2.1,h.2.2⟩
theorem cd.fin {m x:MM} {k:Int} (hm:0 < m.regs.length) (hs:bR (m.opn k) x):∀ {T:Ty} {v:MV},T.has k=false->cd x T v->cd x.fin T v
 | .n,_,_,h=>h
 | .p r A B,v,ht,h=>by
  obtain ⟨hr,hA,hB⟩:=Vu ht
  simp only [cd] at h ⊢
  obtain ⟨h0,i,c,g,h1,h2,h3,h4,h5,h6,h7⟩:=h
  have hl:x.regs.length=m.regs.length+1:=by rw [hs.len];simp [MM.opn]
  have hlt:=(List.getElem?_eq_some_iff.1 h3).1
  have hne:c.home≠m.regs.length:=by
   intro e
   rcases h5 with h5 | h5
   ·obtain ⟨g',k1,k2,_⟩:=hs.at (i:=m.regs.length) (g:=⟨k,m.opened,0⟩) (by simp [MM.opn])
    rw [e,k1] at h3
    cases h3
    exact hr (h5.symm.trans k2)
   ·omega
  have hfr:x.fin.regs=x.regs.dropLast/\x.fin.cells=x.cells:=by
   unfold MM.fin
   cases hg:x.regs.getLast? with
   | none => have:x.regs=[]:=by simpa using hg
             rw [this] at hl;simp at hl
   | some _=>exact ⟨rfl,rfl⟩
  refine ⟨h0,i,c,g,h1,by rw [hfr.2];exact h2,?_,h4,h5,cd.fin hm hs hA h6,cd.fin hm hs hB h7⟩
  rw [hfr.1,List.getElem?_dropLast,if_pos (by omega)];exact h3
theorem bR.new {m x:MM} {k:Int} (hs:bR (m.opn k) x):bR m x.fin:=by
 have hl:x.regs.length=m.regs.length+1:=by rw [hs.len];simp [MM.opn]
 have hfr:x.fin.regs=x.regs.dropLast:=by
  unfold MM.fin
  cases hg:x.regs.getLast? with
  | none => have:x.regs=[]:=by simpa using hg
            rw [this] at hl;simp at hl
  | some _=>rfl
 unfold bR at hs ⊢
 rw [hfr,List.map_dropLast,hs]
 simp [MM.opn]
structure AG (m:MM) (x:MV × MM) (base c:Nat) (T:Ty):Prop where
 ext:Ext m x.2 base c
 same:bR m x.2
 ok:x.2.fault=12\/(x.2.fault=0/\cd x.2 T x.1)
theorem Vv (fuel:Nat) (t:PT):∀ (sc:Sc) (base:Nat) (m:MM),m.fault≠0->Ext m (mW fuel t sc base m).2 base t.cnt/\bR m (mW fuel t sc base m).2:=by
 induction t using PT.ind with
 | h1 p s=>intro sc base m h;simp only [mW];rw [jt fuel m _ h];exact ⟨Ext.refl _ _ _,bR.refl _⟩
 | h2 p s=>intro sc base m h;simp only [mW];rw [jt fuel m _ h];exact ⟨Ext.refl _ _ _,bR.refl _⟩
 | h3 p k nm rg kids ih =>
  intro sc base m h
  simp only [mW]
  split
  ·match kids,ih with
   | [],_=>exact ⟨Ext.refl _ _ _,bR.refl _⟩
   | [a],ih =>
    simp only [pV,PT.cnt,az]
    obtain ⟨h1,h2⟩:=ih a (by simp) sc base (m.opn (aq rg)) h
    have h0:Ext m (m.opn (aq rg)) base (1+(a.cnt+0)):=Ext.same (m:=m) (m':=m.opn (aq rg)) rfl rfl _ _
    have h3:=Ext.trans (b:=base) (c:=1+(a.cnt+0)) h0 h1 (by omega) (by omega)
    exact ⟨Ext.trans (b:=base) (c:=1+(a.cnt+0)) h3 (Bq _ base (1+(a.cnt+0))) (by omega) (by omega),h2.new⟩
   | _::_::_,_=>exact ⟨Ext.refl _ _ _,bR.refl _⟩
  ·rw [jt fuel m _ h];exact ⟨Ext.refl _ _ _,bR.refl _⟩
theorem AG.bad {fuel:Nat} (t:PT) (sc:Sc) (base:Nat) {m:MM} (h:m.fault=12) (T:Ty):AG m (mW fuel t sc base m) base t.cnt T:=by
 obtain ⟨h1,h2⟩:=Vv fuel t sc base m (by rw [h];decide)
 exact ⟨h1,h2,Or.inl (by rw [AB fuel t sc base m (by rw [h];decide)];exact h)⟩
def gx (m:MM) (sc:Sc) (G:aQ) (base:Nat):Prop:=∀ s U,look G s=some U->∃ (i:Nat) (v:MV),bN sc s=(i:Int)/\i < base/\m.named[i]?=some v/\cd m U v
theorem gx.on {m m':MM} {sc:Sc} {G:aQ} {base b c:Nat} (h:gx m sc G base) (he:Ext m m' b c) (hs:bR m m') (hb:base<=b):gx m' sc G base:=by
 intro s U hl
 obtain ⟨i,v,h1,h2,h3,h4⟩:=h s U hl
 exact ⟨i,v,h1,h2,(he.named i (Or.inl (by omega))).trans h3,h4.on he.cells hs⟩
theorem gx.up {m:MM} {sc:Sc} {G:aQ} {base b:Nat} (h:gx m sc G base) (hb:base<=b):gx m sc G b:=by
 intro s U hl
 obtain ⟨i,v,h1,h2,h3,h4⟩:=h s U hl
 exact ⟨i,v,h1,by omega,h3,h4⟩
theorem gx.snoc {m:MM} {sc:Sc} {G:aQ} {base j:Nat} {nm:List UInt8} {T:Ty} {v:MV} (h:gx m sc G base) (hj:base<=j) (hl:j < m.named.length) (hv:cd m T v):gx (m.name (j:Int) v) (sc++[(nm,(j:Int))]) (G++[(nm,T)]) (j+1):=by
 have he:=dw m j v j 1 (by omega)
 have tk:bR m (m.name (j:Int) v):=bR.of (kq m j v)
 intro s T' hlk
 rw [rm] at hlk
 rw [lW]
 by_cases hs:nm=s
 ·rw [if_pos hs] at hlk ⊢
  cases hlk
  exact ⟨j,v,rfl,by omega,Bp m j v hl,hv.on he.cells tk⟩
 ·rw [if_neg hs] at hlk ⊢
  obtain ⟨i,u,h1,h2,h3,h4⟩:=h s T' hlk
  exact ⟨i,u,h1,by omega,(he.named i (Or.inl (by omega))).trans h3,h4.on he.cells tk⟩
theorem iR {fuel:Nat} {m:MM} {g:MM->MV × MM} {base c:Nat} {T:Ty} (h:m.fault=0) (hk:AG { m with steps:=m.steps+1 } (g { m with steps:=m.steps+1 }) base c T):AG m (ba fuel m g) base c T:=by
 unfold ba
 by_cases hq:fuel<=m.steps
 ·simp only [if_pos hq]
  have e:m.stop 12={ m with fault:=12 }:=by unfold MM.stop;rw [if_pos h]
  rw [e,if_pos (by simp)]
  exact ⟨Ext.same (m:=m) (m':={ m with fault:=12 }) rfl rfl _ _,bR.of rfl,Or.inl rfl⟩
 ·simp only [if_neg hq]
  rw [if_neg (fun hn=>hn h)]
  have h0:Ext m { m with steps:=m.steps+1 } base c:=Ext.same (m:=m) (m':={ m with steps:=m.steps+1 }) rfl rfl _ _
  exact ⟨h0.trans hk.ext (by omega) (by omega),(bR.of (m:=m) (m':={ m with steps:=m.steps+1 }) rfl).trans hk.same,hk.ok⟩
theorem Ext.widen {m m':MM} {b c B C:Nat} (h:Ext m m' b c) (hb:B<=b/\b+c<=B+C):Ext m m' B C:=⟨h.cells,h.len,fun i hi=>h.named i (by omega)⟩
theorem yh (l:List MR) (k:Int):∀ i,(l[iI l k i]?).map (·.num)=some k\/iI l k i=0
 | 0=>Or.inr rfl
 | i+1=>by
  simp only [iI]
  split
  ·rename_i h;exact Or.inl h
  ·exact yh l k i
theorem ue (l:List MR) (k:Int):∀ i,iI l k i<=i
 | 0=>Nat.le_refl _
 | i+1=>by
  simp only [iI]
  split
  ·exact Nat.le_refl _
  ·exact Nat.le_succ_of_le (ue l k i)
theorem cd.opn {m:MM} (k:Int):∀ {T:Ty} {v:MV},cd m T v->cd (m.opn k) T v
 | .n,_,h=>h
 | .p r A B,v,h=>by
  simp only [cd] at h ⊢
  obtain ⟨h0,i,c,g,h1,h2,h3,h4,h5,h6,h7⟩:=h
  refine ⟨h0,i,c,g,h1,h2,?_,h4,h5,cd.opn k h6,cd.opn k h7⟩
  simp only [MM.opn]
  rw [List.getElem?_append_left (List.getElem?_eq_some_iff.1 h3).1];exact h3
theorem Rh {m:MM} {A B:Ty} {v u:MV} {r:Nat} (hr:0 < m.regs.length) (ha:cd m A v) (hb:cd m B u):bR m (m.aX (r:Int) v u).2/\cd (m.aX (r:Int) v u).2 (.p r A B) (m.aX (r:Int) v u).1:=by
 have La:m.home (r:Int) < m.regs.length:=by
  have:=ue m.regs (r:Int) (m.regs.length - 1)
  unfold MM.home;omega
 have hg:m.regs[m.home (r:Int)]?=some m.regs[m.home (r:Int)]:=List.getElem?_eq_getElem La
 have hn:=yh m.regs (r:Int) (m.regs.length - 1)
 have YS:=sN m (r:Int) v u 0 0
 have hsame:bR m (m.aX (r:Int) v u).2:=by
  unfold bR MM.aX
  rw [hg]
  simp only [List.map_set]
  rw [show BJ { m.regs[m.home (r:Int)] with cells:=m.regs[m.home (r:Int)].cells+1 }=(m.regs.map BJ)[m.home (r:Int)]'(by simpa using La) by simp [BJ]]
  exact List.set_getElem_self _
 have hA:=ha.on YS.cells hsame
 have hB:=hb.on YS.cells hsame
 refine ⟨hsame,?_⟩
 revert hA hB
 unfold MM.aX
 rw [hg]
 intro hA hB
 simp only [cd]
 refine ⟨trivial,m.cells.length,⟨v,u,m.home (r:Int),m.regs[m.home (r:Int)].gA⟩,{ m.regs[m.home (r:Int)] with cells:=m.regs[m.home (r:Int)].cells+1 },rfl,by simp,by simp [La],rfl,?_,hA,hB⟩
 rcases hn with hn | hn
 ·left
  have:m.regs[m.home (r:Int)]?.map (·.num)=some (r:Int):=hn
  rw [hg] at this
  simpa using this
 ·exact Or.inr hn
theorem Gq {m:MM} {r:Nat} {A B:Ty} {v:MV} (h:cd m (.p r A B) v):(m.use v).2=m/\cd m A (m.use v).1.a/\cd m B (m.use v).1.b:=by
 simp only [cd] at h
 obtain ⟨hc,i,c,g,hv,hi,h3,h4,_,ha,hb⟩:=h
 have lN:=(List.getElem?_eq_some_iff.1 hi).1
 have e2:m.cells.getD v.n.toNat c0=c:=by rw [hv,Int.toNat_natCast,List.getD_eq_getElem?_getD,hi];rfl
 have hlv:m.isLive c=true:=by unfold MM.isLive;rw [h3];simp [h4]
 have e:m.use v=(c,m):=by
  unfold MM.use
  rw [if_neg (by rw [hc,hv];simp;omega),e2,if_pos hlv]
 rw [e];exact ⟨rfl,ha,hb⟩
theorem AJ (i:Int) (f:MM->MV × MM) (k:Nat) (v:MV) (m:MM) (h:m.fault≠0):cD i f k v m=(v,m):=by
 cases k with
 | zero=>rfl
 | succ k=>simp only [cD];rw [if_pos h]
theorem Ea {T:Ty} {j B C:Nat} {g:MM->MV × MM} {P:MM->Prop} (hj:B<=j/\j < B+C) (ou:∀ m v,P m->m.fault=0->cd m T v->AG (m.name (j:Int) v) (g (m.name (j:Int) v)) B C T/\P (g (m.name (j:Int) v)).2):∀ (k:Nat) (m:MM) (v:MV),P m->m.fault=0->cd m T v->AG m (cD (j:Int) g k v m) B C T
 | 0,m,v,_,hf,hv=>⟨Ext.refl _ _ _,bR.refl _,Or.inr ⟨hf,hv⟩⟩
 | k+1,m,v,hP,hf,hv=>by
  simp only [cD]
  rw [if_neg (fun hn=>hn hf)]
  obtain ⟨h1,h2⟩:=ou m v hP hf hv
  have hne:=dw m j v B C hj
  have hns:bR m (m.name (j:Int) v):=bR.of (kq m j v)
  have hE:=Ext.trans (b:=B) (c:=C) hne h1.ext (by omega) (by omega)
  have hS:=hns.trans h1.same
  rcases h1.ok with h12 | ⟨h0,hl⟩
  ·rw [AJ _ _ _ _ _ (by rw [h12];decide)]
   exact ⟨hE,hS,Or.inl h12⟩
  ·have h3:=Ea hj ou k _ _ h2 h0 hl
   exact ⟨Ext.trans (b:=B) (c:=C) hE h3.ext (by omega) (by omega),hS.trans h3.same,h3.ok⟩
end Go.Proofs.YtpicaknklgccoabGreatDoor
