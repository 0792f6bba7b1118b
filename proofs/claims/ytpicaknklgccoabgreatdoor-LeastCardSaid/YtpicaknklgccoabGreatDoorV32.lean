import Derived.Test.YtpicaknklgccoabGreatDoorV31
set_option maxHeartbeats 2000000
namespace Go.Proofs.YtpicaknklgccoabGreatDoor
mutual
def PT.era:PT->PT
 | .num p s=>.num p s
 | .name p s=>.name p s
 | .node p k nm rg kids=>if k=.new then (eI kids).headD (.num 0 []) else .node p k nm rg (eI kids)
def eI:List PT->List PT
 | []=>[]
 | t::r=>t.era::eI r
end
structure Sw (fuel:Nat) (st:cu) (m:MM):Prop where
 e:st.e=0
 f:m.fault=0
 s:m.steps=st.steps
 le:st.steps<=fuel
 c:m.cells.length=st.cells
 r:0<m.regs.length
def O0 (fuel:Nat) (y:Vl × cu) (x:MV × MM) (T:Ty):Prop:=(Sw fuel y.2 x.2/\gP x.2.cells y.1 x.1/\y.1.has T)\/Lg y.2 x.2\/x.2.fault=13
theorem Sw.name {fuel:Nat} {st:cu} {m:MM} (h:Sw fuel st m) (i:Int) (v:MV):Sw fuel st (m.name i v):=by
 unfold MM.name;split
 ·exact⟨h.e,h.f,h.s,h.le,h.c,h.r⟩
 ·exact h
theorem lE (m:MM):m.fin.fault=m.fault/\m.fin.steps=m.steps/\m.fin.cells=m.cells/\m.fin.named=m.named/\m.fin.regs.length=m.regs.length-1:=by
 unfold MM.fin
 cases h:m.regs.getLast? with
 | none =>
  have:m.regs=[]:=by simpa using h
  rw[this];exact⟨rfl,rfl,rfl,rfl,rfl⟩
 | some r=>simp
theorem s9 (m:MM) (v:MV) (h:m.fault≠0):(m.use v).2=m:=by
 unfold MM.use
 split
 ·rfl
 ·simp only;split
  ·rfl
  ·exact vD m 13 h
theorem fU (m:MM) (k:Int) (v u:MV):(m.bb k v u).2.fault=m.fault:=by unfold MM.bb;split <;> rfl
theorem BD (fuel:Nat) (t:PT):∀ (sc:Sc) (base:Nat) (m:MM),m.fault≠0->(mW fuel t sc base m).2.fault=m.fault:=by
 induction t using PT.ind with
 | h1 p s=>intro sc base m h;simp only[mW];rw[j3 fuel m _ h]
 | h2 p s=>intro sc base m h;simp only[mW];rw[j3 fuel m _ h]
 | h3 p k nm rg kids ih =>
  intro sc base m h;simp only[mW]
  split
  ·match kids,ih with
   | [],_=>rfl
   | [a],ih =>
    simp only[rL];rw[(lE _).1,ih a (by simp) sc base (m.opn (ak rg)) h];rfl
   | _::_::_,_=>rfl
  ·rw[j3 fuel m _ h]
theorem Wq (m:MM) (v:MV):(m.use v).2.regs=m.regs:=by
 unfold MM.use MM.stop
 split
 ·rfl
 ·simp only;split
  ·rfl
  ·split <;> rfl
theorem Ix (m:MM) (k:Int) (v u:MV):(m.bb k v u).2.regs.length=m.regs.length:=by unfold MM.bb;split <;> simp
theorem lj (m:MM) (i:Int) (v:MV):(m.name i v).regs=m.regs:=by unfold MM.name;split <;> rfl
theorem zy (fuel:Nat) (m:MM) (g:MM->MV × MM) (h:∀ m,(g m).2.regs.length=m.regs.length):(bn fuel m g).2.regs.length=m.regs.length:=by
 unfold bn
 have e:∀ m:MM,(m.stop 12).regs=m.regs:=λm=>by unfold MM.stop;split <;> rfl
 by_cases hq:fuel<=m.steps
 ·simp only[if_pos hq]
  split
  ·simp only[e]
  ·rw[h];simp only[e]
 ·simp only[if_neg hq]
  split
  ·rfl
  ·rw[h]
theorem E9 (i:Int) (g:MM->MV × MM) (h:∀ m,(g m).2.regs.length=m.regs.length):∀ (k:Nat) (v:MV) (m:MM),(cU i g k v m).2.regs.length=m.regs.length
 | 0,_,_=>rfl
 | k+1,v,m=>by
  simp only[cU]
  split
  ·rfl
  ·rw[E9 i g h k,h,lj]
theorem Z1 (fuel:Nat) (t:PT):∀ (sc:Sc) (base:Nat) (m:MM),(mW fuel t sc base m).2.regs.length=m.regs.length:=by
 induction t using PT.ind with
 | h1 p s=>intro sc base m;simp only[mW];exact zy fuel m _ (λ_=>rfl)
 | h2 p s=>intro sc base m;simp only[mW];exact zy fuel m _ (λ_=>rfl)
 | h3 p k nm rg kids ih =>
  intro sc base m;simp only[mW]
  split
  ·match kids,ih with
   | [],_=>rfl
   | [a],ih =>
    simp only[rL];rw[(lE _).2.2.2.2,ih a (by simp) sc base (m.opn (ak rg))];simp[MM.opn]
   | _::_::_,_=>rfl
  ·refine zy fuel m _ (λm=>?_)
   split
   ·match kids,ih with
    | [a,b],ih=>simp only[ud];rw[ih b (by simp),lj,ih a (by simp)]
    | [],_=>rfl
    | [_],_=>rfl
    | _::_::_::_,_=>rfl
   ·split
    ·match kids,ih with
     | [a,b,c],ih =>
      simp only[Hs]
      split
      ·rw[ih b (by simp),ih a (by simp)]
      ·rw[ih c (by simp),ih a (by simp)]
     | [],_=>rfl
     | [_],_=>rfl
     | [_,_],_=>rfl
     | _::_::_::_::_,_=>rfl
    ·split
     ·match kids,ih with
      | [a,b,c],ih =>
       simp only[lT];rw[E9 _ _ (λm=>ih c (by simp) _ _ m),ih b (by simp),ih a (by simp)]
      | [],_=>rfl
      | [_],_=>rfl
      | [_,_],_=>rfl
      | _::_::_::_::_,_=>rfl
     ·match kids,ih with
      | [a],ih=>simp only[gu];rw[Wq,ih a (by simp)]
      | [a,b],ih =>
       simp only[gu]
       split
       ·rw[Ix,ih b (by simp),ih a (by simp)]
       ·rw[ih b (by simp),ih a (by simp)]
      | [],_=>rfl
      | _::_::_::_,_=>rfl
theorem Ul {fuel:Nat} {st:cu} {m:MM} {a b:Vl} {v:MV} (hs:Sw fuel st m) (h:gP m.cells (.p a b) v):((m.use v).2=m/\gP m.cells a (m.use v).1.a/\gP m.cells b (m.use v).1.b)\/(m.use v).2.fault=13:=by
 simp only[gP] at h;obtain⟨hc,i,c,hv,hi,ha,hb⟩:=h;have mG:=(List.getElem?_eq_some_iff.1 hi).1
 have e2:m.cells.getD v.n.toNat c0=c:=by rw[hv,Int.toNat_natCast,List.getD_eq_getElem?_getD,hi];rfl
 unfold MM.use;rw[if_neg (by rw[hc,hv];simp;omega),e2]
 by_cases hlv:m.isLive c=true
 ·rw[if_pos hlv];exact Or.inl ⟨rfl,ha,hb⟩
 ·rw[if_neg hlv];right;unfold MM.stop;rw[if_pos hs.f]
theorem Wr {fuel:Nat} {st:cu} {m:MM} {a b:Vl} {v u:MV} {k:Int} (hs:Sw fuel st m) (ha:gP m.cells a v) (hb:gP m.cells b u):Sw fuel { st with cells:=st.cells+1 } (m.bb k v u).2/\gP (m.bb k v u).2.cells (.p a b) (m.bb k v u).1:=by
 have MJ:m.home k<m.regs.length:=by
  have hle:∀ (l:List MR) (k:Int) (i:Nat),jq l k i<=i:=by
   intro l k i
   induction i with
   | zero=>exact Nat.le_refl _
   | succ i ih=>simp only[jq];split <;> omega
  have:=hle m.regs k (m.regs.length-1);have:=hs.r;unfold MM.home;omega
 have hr:m.regs[m.home k]?=some m.regs[m.home k]:=List.getElem?_eq_getElem MJ;unfold MM.bb;rw[hr];refine⟨⟨hs.e,hs.f,hs.s,hs.le,by simp[hs.c],by simp[hs.r]⟩,?_⟩;simp only[gP];exact⟨trivial,m.cells.length,⟨v,u,m.home k,m.regs[m.home k].gO⟩,rfl,by simp,ha.mono,hb.mono⟩
theorem fA {fuel:Nat} {st:cu} {m:MM} {f:cu->Vl × cu} {g:MM->MV × MM} {T:Ty} (h:Sw fuel st m) (hk:Sw fuel { st with steps:=st.steps+1 } { m with steps:=m.steps+1 }->O0 fuel (f { st with steps:=st.steps+1 }) (g { m with steps:=m.steps+1 }) T):O0 fuel (begun fuel st f) (bn fuel m g) T:=by
 unfold begun bn;have hs:=h.s;have hle:=h.le;rw[if_neg (λhn=>hn h.e)]
 by_cases hq:st.steps=fuel
 ·rw[if_pos hq]
  have hq':fuel<=m.steps:=by omega
  simp only[if_pos hq']
  have e:m.stop 12={ m with fault:=12 }:=by unfold MM.stop;rw[if_pos h.f]
  rw[e];exact Or.inr (Or.inl ⟨rfl,rfl⟩)
 ·rw[if_neg hq]
  have hq':¬ fuel<=m.steps:=by omega
  simp only[if_neg hq'];rw[if_neg (λhn=>hn h.f)];exact hk ⟨h.e,h.f,by simp only;omega,by simp only;omega,h.c,h.r⟩
theorem zz {fuel:Nat} {T:Ty} {j:Nat} {f:Vl->cu->Vl × cu} {g:MM->MV × MM} {P:MM->Prop} (qz:∀ st m x v,P m->Sw fuel st m->gP m.cells x v->x.has T->O0 fuel (f x st) (g (m.name (j:Int) v)) T/\P (g (m.name (j:Int) v)).2):∀ (k:Nat) (st:cu) (m:MM) (x:Vl) (v:MV),P m->Sw fuel st m->gP m.cells x v->x.has T->O0 fuel (turns f k x st) (cU (j:Int) g k v m) T
 | 0,st,m,x,v,_,hs,hr,ht=>Or.inl ⟨hs,hr,ht⟩
 | k+1,st,m,x,v,hP,hs,hr,ht=>by
  simp only[turns,cU];rw[if_neg (λhn=>hn hs.e),if_neg (λhn=>hn hs.f)];obtain⟨h1,h2⟩:=qz st m x v hP hs hr ht
  rcases h1 with ⟨a,b,c⟩ | hB | hD
  ·exact zz qz k _ _ _ _ h2 a b c
  ·exact Or.inr (Or.inl ⟨by rw[s7 _ _ _ _ (by rw[hB.1];decide)];exact hB.1,by rw[gx _ _ _ _ _ (by rw[hB.2];decide)];exact hB.2⟩)
  ·exact Or.inr (Or.inr (by rw[gx _ _ _ _ _ (by rw[hD];decide)];exact hD))
theorem qA {fuel:Nat} (t:PT) (t':PT) (sc:Sc) (base:Nat) (env:ep) {st:cu} {m:MM} (h:Lg st m):Lg (ev fuel t env st).2 (mW fuel t' sc base m).2 :=
 ⟨by rw[Rp fuel t env st (by rw[h.1];decide)];exact h.1,by rw[BD fuel t' sc base m (by rw[h.2];decide)];exact h.2⟩
theorem vG {fuel:Nat} (t':PT) (sc:Sc) (base:Nat) {m:MM} (h:m.fault=13):(mW fuel t' sc base m).2.fault=13:=by
 rw[BD fuel t' sc base m (by rw[h];decide)];exact h
open Go.Lib (decDigits)
def fL:List Int->Nat->Int->PT->PT
 | [],_,_,t=>t
 | a::l,r,i,t=>if a=i then .node 0 .new [] (35::decDigits r) [fL l (r+1) i t] else fL l (r+1) i t
def QH (regs:List Int) (i:Nat):List UInt8:=if jW regs i=-1 then [] else 35::decDigits (jW regs i).toNat
mutual
def PT.gi (regs news:List Int):PT->Nat->PT
 | .num _ s,_=>.num 0 (decDigits (ak s).toNat)
 | .name _ s,_=>.name 0 s
 | .node _ k nm _ kids,b=>.node 0 k nm (QH regs (b+ax kids)) (iz regs news kids b)
def iz (regs news:List Int):List PT->Nat->List PT
 | [],_=>[]
 | t::r,b=>fL news 0 ((b+t.cnt:Nat)-1:Int) (PT.gi regs news t b)::iz regs news r (b+t.cnt)
end
def PT.lay (regs news:List Int) (t:PT) (b:Nat):PT:=fL news 0 ((b+t.cnt:Nat)-1:Int) (t.gi regs news b)
theorem O1 (regs:List Int) (i:Nat):dn (QH regs i)=Qy regs i:=by
 unfold QH Qy dn
 split
 ·rfl
 ·simp
theorem tf (i:Int) (t:PT):∀ (l:List Int) (r:Nat),(fL l r i t).tidy=uQ l r i++(t.tidy++List.replicate (uR l i) 41)
 | [],r=>by simp[fL,uQ,uR]
 | a::l,r=>by
  have ih:=tf i t l (r+1);simp only[fL,uQ]
  by_cases h:a=i
  ·have hc:uR (a::l) i=uR l i+1:=by unfold uR;simp[h]
   rw[if_pos h,if_pos h,hc];simp only[PT.tidy,bT,bh,bF,ih,dn,Kw.bytes,XF];simp[List.replicate_succ',List.append_assoc]
  ·have hc:uR (a::l) i=uR l i:=by unfold uR;simp[h]
   rw[if_neg h,if_neg h,hc,ih];rfl
mutual
theorem BF (regs news:List Int):∀ (t:PT) (b:Nat),dC t->(t.gi regs news b).tidy=t.Ap regs news b
 | .num _ _,_,_=>rfl
 | .name _ _,_,_=>rfl
 | .node _ k nm _ kids,b,h=>by
  cases h with
  | node hk h =>
   simp only[PT.gi,PT.tidy,PT.Ap,if_neg hk,O1,BG regs news kids b h]
theorem BG (regs news:List Int):∀ (ts:List PT) (b:Nat),(∀ x∈ts,dC x)->bT (iz regs news ts b)=iK regs news ts b
 | [],_,_=>rfl
 | t::r,b,h=>by
  simp only[iz,bT,iK,tf,BF regs news t b (h t (by simp)),BG regs news r (b+t.cnt) (λx hx=>h x (by simp[hx])),XG]
end
theorem O2 (regs news:List Int) (t:PT) (b:Nat) (h:dC t):(t.lay regs news b).tidy=t.wW regs news b:=by
 unfold PT.lay PT.wW;rw[tf,BF regs news t b h];rfl
def QI (regs:List Int) (ns:List NR):Prop:=∀ (i:Nat) (n:NR),ns[i]?=some n->(n.form=4->0<=jW regs i/\jW regs i<=999)/\(n.form≠4->jW regs i=-1)
theorem O3 (k:Kw):aZ k=4↔k=.pair:=by cases k <;> decide
theorem uA (i:Int) (t:PT):∀ (l:List Int) (r:Nat),(fL l r i t).np=fL l r i t.np
 | [],_=>rfl
 | a::l,r=>by
  simp only[fL]
  split
  ·simp only[PT.np,dN,uA i t l (r+1)]
  ·exact uA i t l (r+1)
mutual
theorem JZ (regs news:List Int):∀ (t:PT) (b:Nat),(t.gi regs news b).np=t.gi regs news b
 | .num _ _,_=>rfl
 | .name _ _,_=>rfl
 | .node _ k nm _ kids,b=>by simp only[PT.gi,PT.np,J0 regs news kids b]
theorem J0 (regs news:List Int):∀ (ts:List PT) (b:Nat),dN (iz regs news ts b)=iz regs news ts b
 | [],_=>rfl
 | t::r,b=>by simp only[iz,dN,uA,JZ regs news t b,J0 regs news r]
end
theorem Ws (regs news:List Int) (t:PT) (b:Nat):(t.lay regs news b).np=t.lay regs news b:=by unfold PT.lay;rw[uA,JZ]
theorem zG (i:Int) (t:PT) (h:t.ok true):∀ (l:List Int) (r:Nat),r+l.length<=999->(fL l r i t).ok true
 | [],_,_=>h
 | a::l,r,hr=>by
  simp only[List.length_cons] at hr;have ih:=zG i t h l (r+1) (by omega);simp only[fL]
  split
  ·simp only[PT.ok,pW]
   refine⟨by simp[bP],rfl,by simp,?_,ih,trivial⟩;rw[if_pos ⟨trivial,Or.inr trivial⟩];exact⟨decDigits r,rfl,lS r 3 (El r (by omega))⟩
  ·exact ih
theorem Fa (regs news:List Int):∀ (ts:List PT) (b:Nat),(iz regs news ts b).length=ts.length
 | [],_=>rfl
 | t::r,b=>by simp[iz,Fa regs news r]
mutual
theorem J1 {regs news:List Int} {ns:List NR} (H:QI regs ns) (hn:news.length<=999):∀ (t:PT) (b:Nat),gN ns t b->t.bQ->t.ok false->(t.gi regs news b).ok true
 | .num _ s,_,_,ht,h=>by
  simp only[PT.bQ] at ht;simp only[PT.gi,PT.ok];exact lS _ 4 (lP _ (by omega))
 | .name _ s,_,_,_,h=>by simpa [PT.gi,PT.ok] using h
 | .node _ k nm rg kids,b,hs,ht,h=>by
  simp only[PT.bQ] at ht;simp only[gN] at hs;obtain⟨⟨n,ct,hf,_⟩,hks⟩:=hs;simp only[PT.ok] at h;obtain⟨h1,h2,h3,h4,h5⟩:=h;have hH:=H _ _ ct;have dE:=O3 k;rw[<- hf] at dE
  have hkn:k≠.new:=λe=>by rw[e] at h1;simp[bP] at h1
  simp only[PT.gi,PT.ok];refine⟨by cases k <;> simp[bP] at h1 ⊢,by rw[Fa];exact h2,h3,?_,J2 H hn kids b hks ht.2 h5⟩
  by_cases hp:k=.pair
  ·have:=hH.1 (dE.2 hp)
   rw[if_pos ⟨trivial,Or.inl hp⟩];unfold QH;rw[if_neg (by omega)];exact⟨_,rfl,lS _ 3 (El _ (by omega))⟩
  ·rw[if_neg (by simp[hp,hkn])]
   unfold QH;rw[if_pos (hH.2 (λe=>hp (dE.1 e)))]
theorem J2 {regs news:List Int} {ns:List NR} (H:QI regs ns) (hn:news.length<=999):∀ (ts:List PT) (b:Nat),gq ns ts b->bH ts->pW false ts->pW true (iz regs news ts b)
 | [],_,_,_,_=>by simp[iz,pW]
 | t::r,b,hs,ht,h=>by
  simp only[gq] at hs;simp only[bH] at ht;simp only[pW] at h;simp only[iz,pW];exact⟨zG _ _ (J1 H hn t b hs.1 ht.1 h.1) news 0 (by omega),J2 H hn r _ hs.2 ht.2 h.2⟩
end
theorem Wu {regs news:List Int} {ns:List NR} (H:QI regs ns) (hn:news.length<=999) (t:PT) (b:Nat) (hs:gN ns t b) (ht:t.bQ) (h:t.ok false):(t.lay regs news b).ok true:=zG _ _ (J1 H hn t b hs ht h) news 0 (by omega)
theorem j8 (i:Int) (t:PT):∀ (l:List Int) (r:Nat),(fL l r i t).era=t.era
 | [],_=>rfl
 | a::l,r=>by
  simp only[fL]
  split
  ·simp only[PT.era,if_true,eI,List.headD_cons,j8 i t l (r+1)]
  ·exact j8 i t l (r+1)
theorem rr (i:Int) (t:PT):∀ (l:List Int) (r:Nat),(fL l r i t).bz=t.bz
 | [],_=>rfl
 | a::l,r=>by
  simp only[fL]
  split
  ·simp[PT.bz,ic,rr i t l (r+1)]
  ·exact rr i t l (r+1)
mutual
theorem Fb (regs news:List Int):∀ (t:PT) (b:Nat),(t.gi regs news b).bz=t.bz
 | .num _ _,_=>rfl
 | .name _ _,_=>rfl
 | .node _ k nm _ kids,b=>by simp only[PT.gi,PT.bz,Fc regs news kids b]
theorem Fc (regs news:List Int):∀ (ts:List PT) (b:Nat),ic (iz regs news ts b)=ic ts
 | [],_=>rfl
 | t::r,b=>by simp only[iz,ic,rr,Fb regs news t b,Fc regs news r]
end
theorem Sb (regs news:List Int) (t:PT) (b:Nat):(t.lay regs news b).bz=t.bz:=by unfold PT.lay;rw[rr,Fb]
theorem gz {G:aV} {t:PT} {T:Ty} (i:Int) (h:WT G t T):∀ (l:List Int) (r:Nat),WT G (fL l r i t) T
 | [],_=>h
 | a::l,r=>by
  simp only[fL]
  split
  ·exact .new (gz i h l (r+1))
  ·exact gz i h l (r+1)
theorem O4 {regs news:List Int} {G:aV} {t:PT} {T:Ty} (h:WT G t T):dC t->∀ b,WT G (t.lay regs news b) T:=by
 induction h with
 | num=>intro _ b;exact gz _ .num _ _
 | name hs=>intro _ b;exact gz _ (.name hs) _ _
 | aP _ _ aF bu =>
  intro hn b
  cases hn with
  | node hk hn=>exact gz _ (.aP (aF (hn _ (by simp)) _) (bu (hn _ (by simp)) _)) _ _
 | pair _ _ hs aF bu =>
  intro hn b
  cases hn with
  | node hk hn=>exact gz _ (.pair (aF (hn _ (by simp)) _) (bu (hn _ (by simp)) _) hs) _ _
 | fst _ aF =>
  intro hn b
  cases hn with
  | node hk hn=>exact gz _ (.fst (aF (hn _ (by simp)) _)) _ _
 | snd _ aF =>
  intro hn b
  cases hn with
  | node hk hn=>exact gz _ (.snd (aF (hn _ (by simp)) _)) _ _
 | di _ _ _ aF bu fe =>
  intro hn b
  cases hn with
  | node hk hn=>exact gz _ (.di (aF (hn _ (by simp)) _) (bu (hn _ (by simp)) _) (fe (hn _ (by simp)) _)) _ _
 | two hk _ _ aF bu =>
  intro hn b
  cases hn with
  | node _ hn=>exact gz _ (.two hk (aF (hn _ (by simp)) _) (bu (hn _ (by simp)) _)) _ _
 | loop _ _ _ aF bu fe =>
  intro hn b
  cases hn with
  | node hk hn=>exact gz _ (.loop (aF (hn _ (by simp)) _) (bu (hn _ (by simp)) _) (fe (hn _ (by simp)) _)) _ _
 | new _ _ =>
  intro hn b
  cases hn with
  | node hk hn=>exact absurd rfl hk
theorem Iy (fuel:Nat) {G:aV} {t:PT} {T:Ty} (h:WT G t T):∀ (sc:Sc) (base:Nat) (m:MM) (env:ep) (st:cu),t.iE->ER m.named m.cells sc env G base->base+t.cnt<=m.named.length->Sw fuel st m->O0 fuel (ev fuel t.era env st) (mW fuel t sc base m) T:=by
 induction h with
 | num =>
  intro sc base m env st hr he hl hs;simp only[PT.iE] at hr;simp only[PT.era,ev,mW];exact fA hs (λhs=>Or.inl ⟨hs,by simp only[gP,true_and];omega,by simp only[Vl.has];omega⟩)
 | name hlk =>
  intro sc base m env st hr he hl hs;simp only[PT.era,ev,mW];refine fA hs (λhs=>Or.inl ⟨hs,?_⟩);obtain⟨i,v,h1,h2,h3,h4,h5⟩:=he _ _ hlk;have mG:=(List.getElem?_eq_some_iff.1 h3).1;unfold MM.look;simp only[h1];rw[if_neg (by omega),Int.toNat_natCast,List.getD_eq_getElem?_getD,h3];exact⟨h4,h5⟩
 | @aP G p nm rg a b A B ha hb aF bu =>
  intro sc base m env st hr he hl hs;simp only[PT.iE,cJ] at hr;simp only[PT.cnt,ax,Nat.add_zero] at hl;simp only[PT.era,eI,ev,gM,mW,ud,if_true,reduceCtorEq,if_false];refine fA hs (λhs=>?_);have hf:=kq fuel ha sc base { m with steps:=m.steps+1 } hr.2.1 he.ef (by simp only;omega);have h1:=aF sc base { m with steps:=m.steps+1 } env { st with steps:=st.steps+1 } hr.2.1 he (by simp only;omega) hs;generalize mW fuel a sc base { m with steps:=m.steps+1 }=x at hf h1 ⊢;generalize ev fuel a.era env { st with steps:=st.steps+1 }=y at h1 ⊢;have XO:=cV a;have hxl:x.2.named.length=m.named.length:=hf.1.len;rw[show (((base+a.cnt:Nat):Int)-1)=((base+a.cnt-1:Nat):Int) from by omega]
  rcases h1 with ⟨h1,h2,h3⟩ | hB | hD
  ·have hx:=ER.on (m:={ m with steps:=m.steps+1 }) he hf.1 (Nat.le_refl _)
   have iV:=hx.snoc (nm:=nm) (j:=base+a.cnt-1) (by omega) (by omega) h2 h3;rw[show base+a.cnt-1+1=base+a.cnt from by omega] at iV;have hne:=dQ x.2 (base+a.cnt-1) x.1 base a.cnt (by omega);exact bu _ (base+a.cnt) _ _ _ hr.2.2.1 iV (by rw[hne.len,hxl];omega) (h1.name _ _)
  ·exact Or.inr (Or.inl (qA _ _ _ _ _ (hB.name _ _)))
  ·exact Or.inr (Or.inr (vG _ _ _ (by rw[(iN _ _ _).1];exact hD)))
 | @pair G p nm rg a b A B ha hb hsz aF bu =>
  intro sc base m env st hr he hl hs;simp only[PT.iE,cJ] at hr;simp only[PT.cnt,ax,Nat.add_zero] at hl
  have e':ev fuel (PT.node p .pair nm rg [a,b]).era env st=begun fuel st (λst=>if (ev fuel b.era env (ev fuel a.era env st).2).2.e≠0 then (.n 0,(ev fuel b.era env (ev fuel a.era env st).2).2) else cT .pair [(ev fuel a.era env st).1,(ev fuel b.era env (ev fuel a.era env st).2).1] (ev fuel b.era env (ev fuel a.era env st).2).2):=by
   simp only[PT.era,eI,ev,bM,reduceCtorEq,if_false];rfl
  rw[e'];simp only[mW,gu,if_true,reduceCtorEq,if_false];refine fA hs (λhs=>?_);have hf:=kq fuel ha sc base { m with steps:=m.steps+1 } hr.2.1 he.ef (by simp only;omega);have h1:=aF sc base { m with steps:=m.steps+1 } env { st with steps:=st.steps+1 } hr.2.1 he (by simp only;omega) hs;generalize mW fuel a sc base { m with steps:=m.steps+1 }=x at hf h1 ⊢;generalize ev fuel a.era env { st with steps:=st.steps+1 }=y at h1 ⊢;have hxl:x.2.named.length=m.named.length:=hf.1.len
  rcases h1 with ⟨h1,h2,h3⟩ | hB | hD
  ·have hx:=(ER.on (m:={ m with steps:=m.steps+1 }) he hf.1 (Nat.le_refl _)).up (show base<=base+a.cnt by omega)
   have hg:=kq fuel hb sc (base+a.cnt) x.2 hr.2.2.1 hx.ef (by omega);have k1:=bu sc (base+a.cnt) x.2 env y.2 hr.2.2.1 hx (by omega) h1;generalize mW fuel b sc (base+a.cnt) x.2=x' at hg k1 ⊢;generalize ev fuel b.era env y.2=y' at k1 ⊢
   rcases k1 with ⟨k1,k2,k3⟩ | hB | hD
   ·rw[if_neg (λhn=>hn k1.e)]
    simp only[cT];have hc:=Wr (k:=ak rg) k1 (h2.on hg.1) k2;exact Or.inl ⟨hc.1,hc.2,by simp only[Vl.has];exact⟨h3,k3⟩⟩
   ·rw[if_pos (by rw[hB.1];decide)]
    exact Or.inr (Or.inl ⟨hB.1,by rw[fU];exact hB.2⟩)
   ·exact Or.inr (Or.inr (by rw[fU];exact hD))
  ·have mi:=qA (fuel:=fuel) b.era b sc (base+a.cnt) env hB
   rw[if_pos (by rw[mi.1];decide)];exact Or.inr (Or.inl ⟨mi.1,by rw[fU];exact mi.2⟩)
  ·exact Or.inr (Or.inr (by rw[fU];exact vG _ _ _ hD))
 | @fst G p nm rg a A B ha aF =>
  intro sc base m env st hr he hl hs;simp only[PT.iE,cJ] at hr;simp only[PT.cnt,ax,Nat.add_zero] at hl
  have e':ev fuel (PT.node p .fst nm rg [a]).era env st=begun fuel st (λst=>if (ev fuel a.era env st).2.e≠0 then (.n 0,(ev fuel a.era env st).2) else cT .fst [(ev fuel a.era env st).1] (ev fuel a.era env st).2):=by
   simp only[PT.era,eI,ev,bM,reduceCtorEq,if_false];rfl
  rw[e'];simp only[mW,gu,if_true,reduceCtorEq,if_false];refine fA hs (λhs=>?_);have h1:=aF sc base { m with steps:=m.steps+1 } env { st with steps:=st.steps+1 } hr.2.1 he (by simp only;omega) hs;generalize mW fuel a sc base { m with steps:=m.steps+1 }=x at h1 ⊢;generalize ev fuel a.era env { st with steps:=st.steps+1 }=y at h1 ⊢
  rcases h1 with ⟨h1,h2,h3⟩ | hB | hD
  ·rw[if_neg (λhn=>hn h1.e)]
   obtain⟨y1,y2⟩:=y
   cases y1 with
   | n k=>simp[Vl.has] at h3
   | p u v =>
    simp only[Vl.has] at h3;have hu:=Ul h1 h2;simp only[cT,Vl.fst]
    rcases hu with hu | hu
    ·rw[hu.1]
     exact Or.inl ⟨h1,hu.2.1,h3.1⟩
    ·exact Or.inr (Or.inr hu)
  ·rw[if_pos (by rw[hB.1];decide)]
   exact Or.inr (Or.inl ⟨hB.1,by rw[s9 _ _ (by rw[hB.2];decide)];exact hB.2⟩)
  ·exact Or.inr (Or.inr (by rw[s9 _ _ (by rw[hD];decide)];exact hD))
 | @snd G p nm rg a A B ha aF =>
  intro sc base m env st hr he hl hs;simp only[PT.iE,cJ] at hr;simp only[PT.cnt,ax,Nat.add_zero] at hl
  have e':ev fuel (PT.node p .snd nm rg [a]).era env st=begun fuel st (λst=>if (ev fuel a.era env st).2.e≠0 then (.n 0,(ev fuel a.era env st).2) else cT .snd [(ev fuel a.era env st).1] (ev fuel a.era env st).2):=by
   simp only[PT.era,eI,ev,bM,reduceCtorEq,if_false];rfl
  rw[e'];simp only[mW,gu,reduceCtorEq,if_false];refine fA hs (λhs=>?_);have h1:=aF sc base { m with steps:=m.steps+1 } env { st with steps:=st.steps+1 } hr.2.1 he (by simp only;omega) hs;generalize mW fuel a sc base { m with steps:=m.steps+1 }=x at h1 ⊢;generalize ev fuel a.era env { st with steps:=st.steps+1 }=y at h1 ⊢
  rcases h1 with ⟨h1,h2,h3⟩ | hB | hD
  ·rw[if_neg (λhn=>hn h1.e)]
   obtain⟨y1,y2⟩:=y
   cases y1 with
   | n k=>simp[Vl.has] at h3
   | p u v =>
    simp only[Vl.has] at h3;have hu:=Ul h1 h2;simp only[cT,Vl.snd]
    rcases hu with hu | hu
    ·rw[hu.1]
     exact Or.inl ⟨h1,hu.2.2,h3.2⟩
    ·exact Or.inr (Or.inr hu)
  ·rw[if_pos (by rw[hB.1];decide)]
   exact Or.inr (Or.inl ⟨hB.1,by rw[s9 _ _ (by rw[hB.2];decide)];exact hB.2⟩)
  ·exact Or.inr (Or.inr (by rw[s9 _ _ (by rw[hD];decide)];exact hD))
 | @di G p nm rg a b c T ha hb hc aF bu fe =>
  intro sc base m env st hr he hl hs;simp only[PT.iE,cJ] at hr;simp only[PT.cnt,ax,Nat.add_zero] at hl;simp only[PT.era,eI,ev,mw,mW,Hs,if_true,reduceCtorEq,if_false];refine fA hs (λhs=>?_);have hf:=kq fuel ha sc base { m with steps:=m.steps+1 } hr.2.1 he.ef (by simp only;omega);have h1:=aF sc base { m with steps:=m.steps+1 } env { st with steps:=st.steps+1 } hr.2.1 he (by simp only;omega) hs;generalize mW fuel a sc base { m with steps:=m.steps+1 }=x at hf h1 ⊢;generalize ev fuel a.era env { st with steps:=st.steps+1 }=y at h1 ⊢;have hxl:x.2.named.length=m.named.length:=hf.1.len
  rcases h1 with ⟨h1,h2,h3⟩ | hB | hD
  ·have hx:=ER.on (m:={ m with steps:=m.steps+1 }) he hf.1 (Nat.le_refl _)
   obtain⟨y1,y2⟩:=y
   cases y1 with
   | p u v=>simp[Vl.has] at h3
   | n k =>
    simp only[gP] at h2
    split
    ·rename_i hz
     simp only[Vl.num] at hz;rw[if_pos (show x.1.n≠0 by omega)];exact bu sc (base+a.cnt) x.2 env _ hr.2.2.1 (hx.up (by omega)) (by omega) h1
    ·rename_i hz
     simp only[Vl.num,ne_eq,Decidable.not_not] at hz;rw[if_neg (show ¬ x.1.n≠0 by omega)];exact fe sc (base+a.cnt+b.cnt) x.2 env _ hr.2.2.2.1 (hx.up (by omega)) (by omega) h1
  ·refine Or.inr (Or.inl ?_)
   constructor
   ·split
    ·exact (qA b.era b sc 0 env hB).1
    ·exact (qA c.era c sc 0 env hB).1
   ·split
    ·exact (qA b.era b sc (base+a.cnt) env hB).2
    ·exact (qA c.era c sc (base+a.cnt+b.cnt) env hB).2
  ·refine Or.inr (Or.inr ?_)
   split
   ·exact vG _ _ _ hD
   ·exact vG _ _ _ hD
 | @two G p k nm rg a b hkk ha hb aF bu =>
  intro sc base m env st hr he hl hs;simp only[PT.iE,cJ] at hr;simp only[PT.cnt,ax,Nat.add_zero] at hl
  have e:mW fuel (.node p k nm rg [a,b]) sc base m=bn fuel m (λm=>(⟨false,iM k (mW fuel a sc base m).1.n (mW fuel b sc (base+a.cnt) (mW fuel a sc base m).2).1.n⟩,(mW fuel b sc (base+a.cnt) (mW fuel a sc base m).2).2)):=by
   rcases hkk with rfl | rfl | rfl <;> simp only[mW,gu,reduceCtorEq,if_false]
  have e':ev fuel (PT.node p k nm rg [a,b]).era env st=begun fuel st (λst=>if (ev fuel b.era env (ev fuel a.era env st).2).2.e≠0 then (.n 0,(ev fuel b.era env (ev fuel a.era env st).2).2) else cT k [(ev fuel a.era env st).1,(ev fuel b.era env (ev fuel a.era env st).2).1] (ev fuel b.era env (ev fuel a.era env st).2).2):=by
   rcases hkk with rfl | rfl | rfl <;> (simp only[PT.era,eI,ev,bM,reduceCtorEq,if_false];rfl)
  rw[e,e'];refine fA hs (λhs=>?_);have hf:=kq fuel ha sc base { m with steps:=m.steps+1 } hr.2.1 he.ef (by simp only;omega);have h1:=aF sc base { m with steps:=m.steps+1 } env { st with steps:=st.steps+1 } hr.2.1 he (by simp only;omega) hs;generalize mW fuel a sc base { m with steps:=m.steps+1 }=x at hf h1 ⊢;generalize ev fuel a.era env { st with steps:=st.steps+1 }=y at h1 ⊢;have hxl:x.2.named.length=m.named.length:=hf.1.len
  rcases h1 with ⟨h1,h2,h3⟩ | hB | hD
  ·have hx:=(ER.on (m:={ m with steps:=m.steps+1 }) he hf.1 (Nat.le_refl _)).up (show base<=base+a.cnt by omega)
   have k1:=bu sc (base+a.cnt) x.2 env y.2 hr.2.2.1 hx (by omega) h1;generalize mW fuel b sc (base+a.cnt) x.2=x' at k1 ⊢;generalize ev fuel b.era env y.2=y' at k1 ⊢
   rcases k1 with ⟨k1,k2,k3⟩ | hB | hD
   ·rw[if_neg (λhn=>hn k1.e)]
    obtain⟨y1,y2⟩:=y;obtain⟨z1,z2⟩:=y'
    cases y1 with
    | p u v=>simp[Vl.has] at h3
    | n i =>
     cases z1 with
     | p u v=>simp[Vl.has] at k3
     | n j =>
      simp only[gP] at h2 k2;refine Or.inl ?_
      rcases hkk with rfl | rfl | rfl
      ·simp only[cT,Vl.num,iM,if_true]
       refine⟨k1,?_,by simp only[Vl.has];omega⟩;simp only[gP,true_and];rw[Int.tmod_eq_emod_of_nonneg (by omega)];omega
      ·simp only[cT,Vl.num,iM,if_true,reduceCtorEq,if_false]
       refine⟨k1,?_,by simp only[Vl.has];omega⟩;simp only[gP,true_and];rw[Int.tmod_eq_emod_of_nonneg (by omega)];omega
      ·simp only[cT,iM,reduceCtorEq,if_false]
       by_cases hlt:i<j
       ·have hq:x.1.n<x'.1.n:=by omega
        exact⟨k1,by simp[gP,Vl.num,hlt,hq],by simp[Vl.has,Vl.num,hlt]⟩
       ·have hq:¬ x.1.n<x'.1.n:=by omega
        exact⟨k1,by simp[gP,Vl.num,hlt,hq],by simp[Vl.has,Vl.num,hlt]⟩
   ·rw[if_pos (by rw[hB.1];decide)]
    exact Or.inr (Or.inl hB)
   ·exact Or.inr (Or.inr hD)
  ·have mi:=qA (fuel:=fuel) b.era b sc (base+a.cnt) env hB
   rw[if_pos (by rw[mi.1];decide)];exact Or.inr (Or.inl mi)
  ·exact Or.inr (Or.inr (vG _ _ _ hD))
 | @loop G p nm rg a b c T ha hb hc aF bu fe =>
  intro sc base m env st hr he hl hs;simp only[PT.iE,cJ] at hr;simp only[PT.cnt,ax,Nat.add_zero] at hl;simp only[PT.era,eI,ev,eu,mW,lT,if_true,reduceCtorEq,if_false];refine fA hs (λhs=>?_);have hf:=kq fuel ha sc base { m with steps:=m.steps+1 } hr.2.1 he.ef (by simp only;omega);have h1:=aF sc base { m with steps:=m.steps+1 } env { st with steps:=st.steps+1 } hr.2.1 he (by simp only;omega) hs;generalize mW fuel a sc base { m with steps:=m.steps+1 }=x at hf h1 ⊢;generalize ev fuel a.era env { st with steps:=st.steps+1 }=y at h1 ⊢;have hxl:x.2.named.length=m.named.length:=hf.1.len
  rcases h1 with ⟨h1,h2,h3⟩ | hB | hD
  ·have hx:=ER.on (m:={ m with steps:=m.steps+1 }) he hf.1 (Nat.le_refl _)
   have hg:=kq fuel hb sc (base+a.cnt) x.2 hr.2.2.1 (hx.up (by omega)).ef (by omega);have k1:=bu sc (base+a.cnt) x.2 env y.2 hr.2.2.1 (hx.up (by omega)) (by omega) h1;generalize mW fuel b sc (base+a.cnt) x.2=x' at hg k1 ⊢;generalize ev fuel b.era env y.2=y' at k1 ⊢;have Fe:x'.2.named.length=m.named.length:=hg.1.len.trans hxl;have Al:=cV b;rw[show (((base+a.cnt+b.cnt:Nat):Int)-1)=((base+a.cnt+b.cnt-1:Nat):Int) from by omega]
   rcases k1 with ⟨k1,k2,k3⟩ | hB | hD
   ·have rG:x.1.n.toNat=y.1.num:=by
     obtain⟨y1,y2⟩:=y
     cases y1 with
     | p u v=>simp[Vl.has] at h3
     | n k=>simp only[gP] at h2;simp only[Vl.num];omega
    rw[rG];refine zz (P:=λm'=>ER m'.named m'.cells sc env G base/\m'.named.length=m.named.length) (λst' m' v u hP hs' hr' ht'=>?_) _ _ _ _ _ ⟨hx.on hg.1 (by omega),Fe⟩ k1 k2 k3;have iV:=ER.snoc (nm:=nm) (j:=base+a.cnt+b.cnt-1) (ER.up hP.1 (show base<=base+a.cnt+b.cnt-1 by omega)) (Nat.le_refl _) (by omega) hr' ht';rw[show base+a.cnt+b.cnt-1+1=base+a.cnt+b.cnt from by omega] at iV;have hne:=dQ m' (base+a.cnt+b.cnt-1) u (base+a.cnt+b.cnt-1) 1 (by omega);have hg':=kq fuel hc _ (base+a.cnt+b.cnt) _ hr.2.2.2.1 iV.ef (by rw[hne.len];omega);refine⟨fe _ (base+a.cnt+b.cnt) _ _ _ hr.2.2.2.1 iV (by rw[hne.len];omega) (hs'.name _ _),ER.on (hP.1.on hne (by omega)) hg'.1 (by omega),hg'.1.len.trans (hne.len.trans hP.2)⟩
   ·exact Or.inr (Or.inl ⟨by rw[s7 _ _ _ _ (by rw[hB.1];decide)];exact hB.1,by rw[gx _ _ _ _ _ (by rw[hB.2];decide)];exact hB.2⟩)
   ·exact Or.inr (Or.inr (by rw[gx _ _ _ _ _ (by rw[hD];decide)];exact hD))
  ·have mi:=qA (fuel:=fuel) b.era b sc (base+a.cnt) env hB
   exact Or.inr (Or.inl ⟨by rw[s7 _ _ _ _ (by rw[mi.1];decide)];exact mi.1,by rw[gx _ _ _ _ _ (by rw[mi.2];decide)];exact mi.2⟩)
  ·have hD2:=vG (fuel:=fuel) b sc (base+a.cnt) hD
   exact Or.inr (Or.inr (by rw[gx _ _ _ _ _ (by rw[hD2];decide)];exact hD2))
 | @new G p nm rg a T ha aF =>
  intro sc base m env st hr he hl hs;simp only[PT.iE,cJ] at hr;simp only[PT.cnt,ax,Nat.add_zero] at hl;simp only[PT.era,eI,if_true,List.headD_cons,mW,rL];have h1:=aF sc base (m.opn (ak rg)) env st hr.2.1 he (by simp only[MM.opn];omega) ⟨hs.e,hs.f,hs.s,hs.le,hs.c,by simp[MM.opn]⟩;have hrl:=Z1 fuel a sc base (m.opn (ak rg));generalize mW fuel a sc base (m.opn (ak rg))=x at h1 hrl ⊢;obtain⟨f1,f2,f3,f4,f5⟩:=lE x.2;have hr0:=hs.r
  rcases h1 with ⟨h1,h2,h3⟩ | hB | hD
  ·refine Or.inl ⟨⟨h1.e,by rw[f1];exact h1.f,by rw[f2];exact h1.s,h1.le,by rw[f3];exact h1.c,?_⟩,by rw[f3];exact h2,h3⟩
   rw[f5,hrl];simp only[MM.opn,List.length_append,List.length_singleton];omega
  ·exact Or.inr (Or.inl ⟨hB.1,by rw[f1];exact hB.2⟩)
  ·exact Or.inr (Or.inr (by rw[f1];exact hD))
inductive jE:aV->PT->Ty->Prop
 | num {G:aV} {p:Nat} {s:List UInt8} (h:0<=ak s/\ak s<=9999):jE G (.num p s) .n
 | name {G:aV} {p:Nat} {s:List UInt8} {T:Ty} (h:look G s=some T):jE G (.name p s) T
 | aP {G:aV} {p:Nat} {nm rg:List UInt8} {a b:PT} {A B:Ty} (ha:jE G a A) (hb:jE (G++[(nm,A)]) b B):jE G (.node p .aP nm rg [a,b]) B
 | pair {G:aV} {p:Nat} {nm rg:List UInt8} {a b:PT} {A B:Ty} {r:Nat} (hr:ak rg=(r:Int)) (ha:jE G a A) (hb:jE G b B):jE G (.node p .pair nm rg [a,b]) (.p r A B)
 | fst {G:aV} {p:Nat} {nm rg:List UInt8} {a:PT} {r:Nat} {A B:Ty} (ha:jE G a (.p r A B)):jE G (.node p .fst nm rg [a]) A
 | snd {G:aV} {p:Nat} {nm rg:List UInt8} {a:PT} {r:Nat} {A B:Ty} (ha:jE G a (.p r A B)):jE G (.node p .snd nm rg [a]) B
 | di {G:aV} {p:Nat} {nm rg:List UInt8} {a b c:PT} {T:Ty} (ha:jE G a .n) (hb:jE G b T) (hc:jE G c T):jE G (.node p .di nm rg [a,b,c]) T
 | two {G:aV} {p:Nat} {k:Kw} {nm rg:List UInt8} {a b:PT} (hk:k=.add\/k=.sub\/k=.less) (ha:jE G a .n) (hb:jE G b .n):jE G (.node p k nm rg [a,b]) .n
 | loop {G:aV} {p:Nat} {nm rg:List UInt8} {a b c:PT} {T:Ty} (ha:jE G a .n) (hb:jE G b T) (hc:jE (G++[(nm,T)]) c T):jE G (.node p .loop nm rg [a,b,c]) T
 | new {G:aV} {p:Nat} {nm rg:List UInt8} {a:PT} {T:Ty} (ha:jE G a T) (hm:T.has (ak rg)=false):jE G (.node p .new nm rg [a]) T
def cG (m:MM):Ty->MV->Prop
 | .n,v=>v.c=false/\0<=v.n/\v.n<=9999
 | .p r A B,v=>v.c=true/\∃ (i:Nat) (c:MC) (g:MR),v.n=i/\m.cells[i]?=some c/\m.regs[c.home]?=some g/\g.gO=c.gO/\(g.num=(r:Int)\/c.home=0)/\cG m A c.a/\cG m B c.b
def CU (r:MR):Int × Nat:=(r.num,r.gO)
def cg (m m':MM):Prop:=m'.regs.map CU=m.regs.map CU
theorem cg.refl (m:MM):cg m m:=rfl
theorem cg.trans {a b c:MM} (h:cg a b) (g:cg b c):cg a c:=Eq.trans g h
theorem cg.of {m m':MM} (h:m'.regs=m.regs):cg m m':=by unfold cg;rw[h]
theorem cg.at {m m':MM} (h:cg m m') {i:Nat} {g:MR} (hi:m.regs[i]?=some g):∃ g',m'.regs[i]?=some g'/\g'.num=g.num/\g'.gO=g.gO:=by
 have e:=congrArg (λl=>l[i]?) h;simp only[List.getElem?_map,hi,Option.map_some] at e
 cases h':m'.regs[i]? with
 | none=>rw[h'] at e;simp at e
 | some g' =>
  rw[h'] at e;simp only[Option.map_some,Option.some.injEq,CU,Prod.mk.injEq] at e;exact⟨g',rfl,e.1,e.2⟩
theorem cg.len {m m':MM} (h:cg m m'):m'.regs.length=m.regs.length:=by have:=congrArg List.length h;simpa using this
theorem cG.on {m m':MM} (hc:∃ l,m'.cells=m.cells++l) (hs:cg m m'):∀ {T:Ty} {v:MV},cG m T v->cG m' T v
 | .n,_,h=>h
 | .p r A B,v,h=>by
  simp only[cG] at h ⊢;obtain⟨h0,i,c,g,h1,h2,h3,h4,h5,h6,h7⟩:=h;obtain⟨g',k1,k2,k3⟩:=hs.at h3;obtain⟨l,hl⟩:=hc;refine⟨h0,i,c,g',h1,?_,k1,k3.trans h4,?_,cG.on ⟨l,hl⟩ hs h6,cG.on ⟨l,hl⟩ hs h7⟩
  ·rw[hl,List.getElem?_append_left (List.getElem?_eq_some_iff.1 h2).1];exact h2
  ·rw[k2];exact h5
theorem Wv {r:Nat} {A B:Ty} {k:Int} (h:(Ty.p r A B).has k=false):(r:Int)≠k/\A.has k=false/\B.has k=false:=by
 unfold Ty.has at h ⊢;simp only[Ty.u7,List.any_cons,List.any_append,Bool.or_eq_false_iff,beq_eq_false_iff_ne] at h;exact⟨h.1,h.2.1,h.2.2⟩
theorem cG.fin {m x:MM} {k:Int} (hm:0<m.regs.length) (hs:cg (m.opn k) x):∀ {T:Ty} {v:MV},T.has k=false->cG x T v->cG x.fin T v
 | .n,_,_,h=>h
 | .p r A B,v,ht,h=>by
  obtain⟨hr,hA,hB⟩:=Wv ht;simp only[cG] at h ⊢;obtain⟨h0,i,c,g,h1,h2,h3,h4,h5,h6,h7⟩:=h
  have hl:x.regs.length=m.regs.length+1:=by rw[hs.len];simp[MM.opn]
  have hlt:=(List.getElem?_eq_some_iff.1 h3).1
  have hne:c.home≠m.regs.length:=by
   intro e
   rcases h5 with h5 | h5
   ·obtain⟨g',k1,k2,_⟩:=hs.at (i:=m.regs.length) (g:=⟨k,m.opened,0⟩) (by simp[MM.opn])
    rw[e,k1] at h3
    cases h3
    exact hr (h5.symm.trans k2)
   ·omega
  have hfr:x.fin.regs=x.regs.dropLast/\x.fin.cells=x.cells:=by
   unfold MM.fin
   cases hg:x.regs.getLast? with
   | none => have:x.regs=[]:=by simpa using hg
             rw[this] at hl;simp at hl
   | some _=>exact⟨rfl,rfl⟩
  refine⟨h0,i,c,g,h1,by rw[hfr.2];exact h2,?_,h4,h5,cG.fin hm hs hA h6,cG.fin hm hs hB h7⟩;rw[hfr.1,List.getElem?_dropLast,if_pos (by omega)];exact h3
theorem cg.new {m x:MM} {k:Int} (hs:cg (m.opn k) x):cg m x.fin:=by
 have hl:x.regs.length=m.regs.length+1:=by rw[hs.len];simp[MM.opn]
 have hfr:x.fin.regs=x.regs.dropLast:=by
  unfold MM.fin
  cases hg:x.regs.getLast? with
  | none => have:x.regs=[]:=by simpa using hg
            rw[this] at hl;simp at hl
  | some _=>rfl
 unfold cg at hs ⊢;rw[hfr,List.map_dropLast,hs];simp[MM.opn]
structure BH (m:MM) (x:MV × MM) (base c:Nat) (T:Ty):Prop where
 ext:Ext m x.2 base c
 same:cg m x.2
 ok:x.2.fault=12\/(x.2.fault=0/\cG x.2 T x.1)
theorem Ww (fuel:Nat) (t:PT):∀ (sc:Sc) (base:Nat) (m:MM),m.fault≠0->Ext m (mW fuel t sc base m).2 base t.cnt/\cg m (mW fuel t sc base m).2:=by
 induction t using PT.ind with
 | h1 p s=>intro sc base m h;simp only[mW];rw[j3 fuel m _ h];exact⟨Ext.refl _ _ _,cg.refl _⟩
 | h2 p s=>intro sc base m h;simp only[mW];rw[j3 fuel m _ h];exact⟨Ext.refl _ _ _,cg.refl _⟩
 | h3 p k nm rg kids ih =>
  intro sc base m h;simp only[mW]
  split
  ·match kids,ih with
   | [],_=>exact⟨Ext.refl _ _ _,cg.refl _⟩
   | [a],ih =>
    simp only[rL,PT.cnt,ax];obtain⟨h1,h2⟩:=ih a (by simp) sc base (m.opn (ak rg)) h;have h0:Ext m (m.opn (ak rg)) base (1+(a.cnt+0)):=Ext.same (m:=m) (m':=m.opn (ak rg)) rfl rfl _ _;have h3:=Ext.trans (b:=base) (c:=1+(a.cnt+0)) h0 h1 (by omega) (by omega);exact⟨Ext.trans (b:=base) (c:=1+(a.cnt+0)) h3 (CH _ base (1+(a.cnt+0))) (by omega) (by omega),h2.new⟩
   | _::_::_,_=>exact⟨Ext.refl _ _ _,cg.refl _⟩
  ·rw[j3 fuel m _ h];exact⟨Ext.refl _ _ _,cg.refl _⟩
theorem BH.bad {fuel:Nat} (t:PT) (sc:Sc) (base:Nat) {m:MM} (h:m.fault=12) (T:Ty):BH m (mW fuel t sc base m) base t.cnt T:=by
 obtain⟨h1,h2⟩:=Ww fuel t sc base m (by rw[h];decide);exact⟨h1,h2,Or.inl (by rw[BD fuel t sc base m (by rw[h];decide)];exact h)⟩
def gR (m:MM) (sc:Sc) (G:aV) (base:Nat):Prop:=∀ s U,look G s=some U->∃ (i:Nat) (v:MV),cE sc s=(i:Int)/\i<base/\m.named[i]?=some v/\cG m U v
theorem gR.on {m m':MM} {sc:Sc} {G:aV} {base b c:Nat} (h:gR m sc G base) (he:Ext m m' b c) (hs:cg m m') (hb:base<=b):gR m' sc G base:=by
 intro s U hl;obtain⟨i,v,h1,h2,h3,h4⟩:=h s U hl;exact⟨i,v,h1,h2,(he.named i (Or.inl (by omega))).trans h3,h4.on he.cells hs⟩
theorem gR.up {m:MM} {sc:Sc} {G:aV} {base b:Nat} (h:gR m sc G base) (hb:base<=b):gR m sc G b:=by
 intro s U hl;obtain⟨i,v,h1,h2,h3,h4⟩:=h s U hl;exact⟨i,v,h1,by omega,h3,h4⟩
theorem gR.snoc {m:MM} {sc:Sc} {G:aV} {base j:Nat} {nm:List UInt8} {T:Ty} {v:MV} (h:gR m sc G base) (hj:base<=j) (hl:j<m.named.length) (hv:cG m T v):gR (m.name (j:Int) v) (sc++[(nm,(j:Int))]) (G++[(nm,T)]) (j+1):=by
 have he:=dQ m j v j 1 (by omega);have uO:cg m (m.name (j:Int) v):=cg.of (lj m j v);intro s T' hlk;rw[sU] at hlk;rw[iT]
 by_cases hs:nm=s
 ·rw[if_pos hs] at hlk ⊢
  cases hlk
  exact⟨j,v,rfl,by omega,CG m j v hl,hv.on he.cells uO⟩
 ·rw[if_neg hs] at hlk ⊢
  obtain⟨i,u,h1,h2,h3,h4⟩:=h s T' hlk;exact⟨i,u,h1,by omega,(he.named i (Or.inl (by omega))).trans h3,h4.on he.cells uO⟩
theorem jv {fuel:Nat} {m:MM} {g:MM->MV × MM} {base c:Nat} {T:Ty} (h:m.fault=0) (hk:BH { m with steps:=m.steps+1 } (g { m with steps:=m.steps+1 }) base c T):BH m (bn fuel m g) base c T:=by
 unfold bn
 by_cases hq:fuel<=m.steps
 ·simp only[if_pos hq]
  have e:m.stop 12={ m with fault:=12 }:=by unfold MM.stop;rw[if_pos h]
  rw[e,if_pos (by simp)];exact⟨Ext.same (m:=m) (m':={ m with fault:=12 }) rfl rfl _ _,cg.of rfl,Or.inl rfl⟩
 ·simp only[if_neg hq]
  rw[if_neg (λhn=>hn h)];have h0:Ext m { m with steps:=m.steps+1 } base c:=Ext.same (m:=m) (m':={ m with steps:=m.steps+1 }) rfl rfl _ _;exact⟨h0.trans hk.ext (by omega) (by omega),(cg.of (m:=m) (m':={ m with steps:=m.steps+1 }) rfl).trans hk.same,hk.ok⟩
theorem Ext.widen {m m':MM} {b c B C:Nat} (h:Ext m m' b c) (hb:B<=b/\b+c<=B+C):Ext m m' B C:=⟨h.cells,h.len,λi hi=>h.named i (by omega)⟩
theorem zI (l:List MR) (k:Int):∀ i,(l[jq l k i]?).map (·.num)=some k\/jq l k i=0
 | 0=>Or.inr rfl
 | i+1=>by
  simp only[jq]
  split
  ·rename_i h;exact Or.inl h
  ·exact zI l k i
theorem vH (l:List MR) (k:Int):∀ i,jq l k i<=i
 | 0=>Nat.le_refl _
 | i+1=>by
  simp only[jq]
  split
  ·exact Nat.le_refl _
  ·exact Nat.le_succ_of_le (vH l k i)
theorem cG.opn {m:MM} (k:Int):∀ {T:Ty} {v:MV},cG m T v->cG (m.opn k) T v
 | .n,_,h=>h
 | .p r A B,v,h=>by
  simp only[cG] at h ⊢;obtain⟨h0,i,c,g,h1,h2,h3,h4,h5,h6,h7⟩:=h;refine⟨h0,i,c,g,h1,h2,?_,h4,h5,cG.opn k h6,cG.opn k h7⟩;simp only[MM.opn];rw[List.getElem?_append_left (List.getElem?_eq_some_iff.1 h3).1];exact h3
theorem Sd {m:MM} {A B:Ty} {v u:MV} {r:Nat} (hr:0<m.regs.length) (ha:cG m A v) (hb:cG m B u):cg m (m.bb (r:Int) v u).2/\cG (m.bb (r:Int) v u).2 (.p r A B) (m.bb (r:Int) v u).1:=by
 have MJ:m.home (r:Int)<m.regs.length:=by
  have:=vH m.regs (r:Int) (m.regs.length-1);unfold MM.home;omega
 have hg:m.regs[m.home (r:Int)]?=some m.regs[m.home (r:Int)]:=List.getElem?_eq_getElem MJ;have hn:=zI m.regs (r:Int) (m.regs.length-1);have Z2:=ug m (r:Int) v u 0 0
 have hsame:cg m (m.bb (r:Int) v u).2:=by
  unfold cg MM.bb;rw[hg];simp only[List.map_set];rw[show CU { m.regs[m.home (r:Int)] with cells:=m.regs[m.home (r:Int)].cells+1 }=(m.regs.map CU)[m.home (r:Int)]'(by simpa using MJ) by simp[CU]];exact List.set_getElem_self _
 have hA:=ha.on Z2.cells hsame;have hB:=hb.on Z2.cells hsame;refine⟨hsame,?_⟩
 revert hA hB
 unfold MM.bb;rw[hg];intro hA hB;simp only[cG];refine⟨trivial,m.cells.length,⟨v,u,m.home (r:Int),m.regs[m.home (r:Int)].gO⟩,{ m.regs[m.home (r:Int)] with cells:=m.regs[m.home (r:Int)].cells+1 },rfl,by simp,by simp[MJ],rfl,?_,hA,hB⟩
 rcases hn with hn | hn
 ·left
  have:m.regs[m.home (r:Int)]?.map (·.num)=some (r:Int):=hn;rw[hg] at this
  simpa using this
 ·exact Or.inr hn
theorem Iz {m:MM} {r:Nat} {A B:Ty} {v:MV} (h:cG m (.p r A B) v):(m.use v).2=m/\cG m A (m.use v).1.a/\cG m B (m.use v).1.b:=by
 simp only[cG] at h;obtain⟨hc,i,c,g,hv,hi,h3,h4,_,ha,hb⟩:=h;have mG:=(List.getElem?_eq_some_iff.1 hi).1
 have e2:m.cells.getD v.n.toNat c0=c:=by rw[hv,Int.toNat_natCast,List.getD_eq_getElem?_getD,hi];rfl
 have hlv:m.isLive c=true:=by unfold MM.isLive;rw[h3];simp[h4]
 have e:m.use v=(c,m):=by
  unfold MM.use;rw[if_neg (by rw[hc,hv];simp;omega),e2,if_pos hlv]
 rw[e];exact⟨rfl,ha,hb⟩
theorem BI (i:Int) (f:MM->MV × MM) (k:Nat) (v:MV) (m:MM) (h:m.fault≠0):cU i f k v m=(v,m):=by
 cases k with
 | zero=>rfl
 | succ k=>simp only[cU];rw[if_pos h]
theorem Ff {T:Ty} {j B C:Nat} {g:MM->MV × MM} {P:MM->Prop} (hj:B<=j/\j<B+C) (qz:∀ m v,P m->m.fault=0->cG m T v->BH (m.name (j:Int) v) (g (m.name (j:Int) v)) B C T/\P (g (m.name (j:Int) v)).2):∀ (k:Nat) (m:MM) (v:MV),P m->m.fault=0->cG m T v->BH m (cU (j:Int) g k v m) B C T
 | 0,m,v,_,hf,hv=>⟨Ext.refl _ _ _,cg.refl _,Or.inr ⟨hf,hv⟩⟩
 | k+1,m,v,hP,hf,hv=>by
  simp only[cU];rw[if_neg (λhn=>hn hf)];obtain⟨h1,h2⟩:=qz m v hP hf hv;have hne:=dQ m j v B C hj;have hns:cg m (m.name (j:Int) v):=cg.of (lj m j v);have hE:=Ext.trans (b:=B) (c:=C) hne h1.ext (by omega) (by omega);have hS:=hns.trans h1.same
  rcases h1.ok with h12 | ⟨h0,hl⟩
  ·rw[BI _ _ _ _ _ (by rw[h12];decide)]
   exact⟨hE,hS,Or.inl h12⟩
  ·have h3:=Ff hj qz k _ _ h2 h0 hl
   exact⟨Ext.trans (b:=B) (c:=C) hE h3.ext (by omega) (by omega),hS.trans h3.same,h3.ok⟩
end Go.Proofs.YtpicaknklgccoabGreatDoor
