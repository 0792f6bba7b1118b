import Derived.Test.YtpicaknklgccoabGreatDoorS26
set_option maxHeartbeats 1000000
namespace Go.Proofs.YtpicaknklgccoabGreatDoor
def ld (T:List Ty):aQ->Sc->Prop
 | [],[]=>True
 | x::e,y::s=>x.1=y.1/\0<=y.2/\T[y.2.toNat]?=some x.2/\ld T e s
 | _,_=>False
theorem ld.app {T:List Ty}:∀ {e e':aQ} {s s':Sc},ld T e s->ld T e' s'->ld T (e++e') (s++s')
 | [],_,[],_,_,h=>h
 | _::_,_,_::_,_,h,h'=>⟨h.1,h.2.1,h.2.2.1,ld.app h.2.2.2 h'⟩
 | [],_,_::_,_,h,_=>h.elim
 | _::_,_,[],_,h,_=>h.elim
theorem ld.rev {T:List Ty}:∀ {e:aQ} {s:Sc},ld T e s->ld T e.reverse s.reverse
 | [],[],_=>trivial
 | _::_,_::_,h=>by
  rw [List.reverse_cons,List.reverse_cons]
  exact ld.app (ld.rev h.2.2.2) ⟨h.1,h.2.1,h.2.2.1,trivial⟩
 | [],_::_,h=>h.elim
 | _::_,[],h=>h.elim
theorem ld.more {T T':List Ty}:∀ {e:aQ} {s:Sc},ld T e s->ld (T++T') e s
 | [],[],_=>trivial
 | _::_,_::_,h=>⟨h.1,h.2.1,by
   have h3:=h.2.2.1
   rw [List.getElem?_append_left (List.getElem?_eq_some_iff.1 h3).1];exact h3,ld.more h.2.2.2⟩
 | [],_::_,h=>h.elim
 | _::_,[],h=>h.elim
theorem ld.find {T:List Ty} (w:List UInt8):∀ {e:aQ} {s:Sc},ld T e s ->
  (e.find? (fun x=>x.1 == w)=none/\s.find? (fun x=>x.1 == w)=none)\/(∃ x y,e.find? (fun x=>x.1 == w)=some x/\s.find? (fun x=>x.1 == w)=some y/\0<=y.2/\T[y.2.toNat]?=some x.2)
 | [],[],_=>Or.inl ⟨rfl,rfl⟩
 | x::_,y::_,h=>by
  rw [List.find?_cons,List.find?_cons,<- h.1]
  by_cases hw:(x.1 == w)=true
  ·rw [hw];exact Or.inr ⟨x,y,rfl,rfl,h.2.1,h.2.2.1⟩
  ·have hw':(x.1 == w)=false:=by simpa using hw
   rw [hw'];exact ld.find w h.2.2.2
 | [],_::_,h=>h.elim
 | _::_,[],h=>h.elim
theorem ld.look {T:List Ty} {e:aQ} {s:Sc} (h:ld T e s) (w:List UInt8) :
  (look e w=none/\bN s w=-1)\/(∃ t,look e w=some t/\bN s w≠-1/\ai T (bN s w)=t):=by
 rcases h.rev.find w with ⟨h1,h2⟩ | ⟨x,y,h1,h2,h3,h4⟩
 ·left;unfold Go.Proofs.YtpicaknklgccoabGreatDoor.look bN;rw [h1,h2];exact ⟨rfl,rfl⟩
 ·right
  refine ⟨x.2,?_,?_,?_⟩
  ·unfold Go.Proofs.YtpicaknklgccoabGreatDoor.look;rw [h1];rfl
  ·unfold bN;rw [h2];simp only;omega
  ·unfold bN ai;rw [h2];simp only;rw [if_pos h3,h4];rfl
theorem xG (TY:List Ty):∀ (a b:List (PT × Nat × Nat)),tU TY (a++b)=if (tU TY a).1≠0 then tU TY a else tU TY b
 | [],_=>by simp [tU]
 | x::r,b=>by
  have e1:tU TY (x::(r++b))=if iM TY x≠0 then (iM TY x,x.1.Z7) else tU TY (r++b):=rfl
  have e2:tU TY (x::r)=if iM TY x≠0 then (iM TY x,x.1.Z7) else tU TY r:=rfl
  by_cases h:iM TY x≠0
  ·rw [if_pos h] at e1 e2;rw [List.cons_append,e1,e2,if_pos h]
  ·rw [if_neg h] at e1 e2;rw [List.cons_append,e1,e2,xG TY r b]
structure Dx (T:List Ty) (c:Nat) (ns:List NR) (T':List Ty) (of of':List (List UInt8)) (id:Nat) (xs:List (PT × Nat × Nat)):Prop where
 run:bC T ns=T++T'
 len:T'.length=c
 sz:jm T ns
 out:∀ k,k < id\/id+c<=k->of'[k]?=of[k]?
 UW:of'.length=of.length
 Z8:∀ k,id<=k->k < id+c->∃ U:Ty,U.fit/\of'[k]?=some U.txt
 pl:∀ TY:List Ty,(∀ k,id<=k->k < id+c->of'[k]?=some (BB TY k).txt)->uD T ns=tU TY xs
theorem Dx.nil (T:List Ty) (of:List (List UInt8)) (id:Nat):Dx T 0 [] [] of of id [] :=
 ⟨by simp [bC],rfl,trivial,fun _ _=>rfl,rfl,fun k h1 h2=>by omega,fun _ _=>rfl⟩
theorem Dx.app {T:List Ty} {c1 c2:Nat} {n1 n2:List NR} {T1 T2:List Ty} {o o1 o2:List (List UInt8)} {id:Nat} {x1 x2:List (PT × Nat × Nat)} (h:Dx T c1 n1 T1 o o1 id x1) (g:Dx (T++T1) c2 n2 T2 o1 o2 (id+c1) x2):Dx T (c1+c2) (n1++n2) (T1++T2) o o2 id (x1++x2):=by
 refine ⟨?_,?_,?_,?_,?_,?_,?_⟩
 ·rw [ky,h.run,g.run,List.append_assoc]
 ·rw [List.length_append,h.len,g.len]
 ·exact wB _ _ _ h.sz (by rw [h.run];exact g.sz)
 ·intro k hk;rw [g.out k (by omega),h.out k (by omega)]
 ·rw [g.UW,h.UW]
 ·intro k h1 h2
  by_cases hk:k < id+c1
  ·obtain ⟨U,u1,u2⟩:=h.Z8 k h1 hk
   exact ⟨U,u1,by rw [g.out k (by omega)];exact u2⟩
  ·exact g.Z8 k (by omega) (by omega)
 ·intro TY hT
  rw [o5,xG,h.run,h.pl TY (fun k h1 h2=>by rw [<- g.out k (by omega)];exact hT k h1 (by omega)),g.pl TY (fun k h1 h2=>hT k (by omega) (by omega))]
theorem Dx.root {T:List Ty} {c:Nat} {ks:List NR} {T':List Ty} {o o1:List (List UInt8)} {id:Nat} {xs:List (PT × Nat × Nat)} (h:Dx T c ks T' o o1 (id+1) xs) (n:NR) (U:Ty) (x:PT × Nat × Nat) (hU:cR (T++T') n=U) (hf:U.fit) (hs:n.form=4->(Ty.p 0 (ai (T++T') n.p0) (ai (T++T') n.p1)).size<=63) (hid:id < o.length) (hat:n.at_=x.1.Z7)
  (hv:∀ TY:List Ty,(∀ k,id+1<=k->k < id+1+c->o1[k]?=some (BB TY k).txt)->pR (T++T'++[U]) n=iM TY x) :
  Dx T (1+c) (ks++[n]) (T'++[U]) o (o1.set id U.txt) id (xs++[x]):=by
 have ho:∀ k,k≠id->(o1.set id U.txt)[k]?=o1[k]?:=fun k hk=>List.getElem?_set_ne (fun e=>hk e.symm)
 have hi:(o1.set id U.txt)[id]?=some U.txt:=by rw [List.getElem?_set_self (by rw [h.UW];exact hid)]
 refine ⟨?_,?_,?_,?_,?_,?_,?_⟩
 ·rw [ky,h.run];simp only [bC,hU,List.append_assoc]
 ·rw [List.length_append,h.len];simp;omega
 ·exact wB _ _ _ h.sz (by rw [h.run];exact ⟨hs,trivial⟩)
 ·intro k hk;rw [ho k (by omega),h.out k (by omega)]
 ·rw [List.length_set,h.UW]
 ·intro k h1 h2
  by_cases e:k=id
  ·subst e;exact ⟨U,hf,hi⟩
  ·obtain ⟨V,v1,v2⟩:=h.Z8 k (by omega) (by omega)
   exact ⟨V,v1,by rw [ho k e];exact v2⟩
 ·intro TY hT
  have Wl:∀ k,id+1<=k->k < id+1+c->o1[k]?=some (BB TY k).txt:=fun k h1 h2=>by rw [<- ho k (by omega)];exact hT k (by omega) (by omega)
  rw [o5,xG,h.run,h.pl TY Wl]
  simp only [uD,tU,hU,hv TY Wl,hat]
theorem xH (id p:Nat) (x:Ty × dM):(fin id p x).1=x.1/\(fin id p x).2.of=x.2.of.set id x.1.txt/\((fin id p x).2.e=0->x.2.e=0/\x.1.size<=63):=by
 unfold fin
 refine ⟨rfl,?_,?_⟩
 ·simp only
  split
  ·unfold cZ;split <;> rfl
  ·rfl
 ·simp only
  split
  ·rename_i h
   unfold cZ;rw [if_pos h.1];intro h';simp at h'
  ·rename_i h
   intro h'
   exact ⟨h',by omega⟩
def sO (cls:List Nat) (l:List (Nat × List UInt8)) (site:Nat):Prop:=∀ (i:Nat) (x:Nat × List UInt8),l[i]?=some x->cls.getD (site+i) 0=(aq x.2).toNat
theorem sO.left {cls:List Nat} {a b:List (Nat × List UInt8)} {site:Nat} (h:sO cls (a++b) site):sO cls a site :=
 fun i x hx=>h i x (by rw [List.getElem?_append_left (List.getElem?_eq_some_iff.1 hx).1];exact hx)
theorem sO.right {cls:List Nat} {a b:List (Nat × List UInt8)} {site:Nat} (h:sO cls (a++b) site):sO cls b (site+a.length):=by
 intro i x hx
 have:=h (a.length+i) x (by rw [List.getElem?_append_right (by omega),Nat.add_sub_cancel_left];exact hx)
 rw [Nat.add_assoc];exact this
theorem rB {T:List Ty} {i:Nat} {t:Ty} (U:List Ty) (h:T[i]?=some t):ai (T++U) (i:Int)=t :=
 rC (by rw [List.getElem?_append_left (List.getElem?_eq_some_iff.1 h).1];exact h)
theorem rD:aY .aT=3:=by decide
theorem nj:aY .pair=4:=by decide
theorem rE:aY .fst=5:=by decide
theorem rF:aY .snd=6:=by decide
theorem uN:aY .dQ=7:=by decide
theorem UX:aY .add=8:=by decide
theorem UY:aY .sub=9:=by decide
theorem QS:aY .less=10:=by decide
theorem lR:aY .loop=11:=by decide
theorem xI:aY .new=12:=by decide
theorem M5 (cls:List Nat) (k:Kw) (p site id:Nat) (nm rg:List UInt8) (kids:List PT) (ks:List Ty) (st:dM) (T:List Ty) (aR:Nat) (hkl:kids.length=(cf k).length) (hl:ks.length=(cf k).length) (h0:st.e=0)
  (hc:k=.pair->cls.getD site 0=(aq rg).toNat) (base:Nat)
  (hK:∀ (j:Nat) (t:Ty),ks[j]?=some t->∃ i:Nat,(aA kids base).getD j (-1)=(i:Int)/\T[i]?=some t)
  (he:(aP cls k p site ks st).2.e=0) (hsz:(aP cls k p site ks st).1.size<=63) :
  (aP cls k p site ks st).2=st /\
  cR T ⟨aY k,p,aR,0,nm,aq rg,-1,(aA kids base).getD 0 (-1),(aA kids base).getD 1 (-1),(aA kids base).getD 2 (-1)⟩=(aP cls k p site ks st).1 /\
  (aY k=4->(Ty.p 0 (ai T ((aA kids base).getD 0 (-1))) (ai T ((aA kids base).getD 1 (-1)))).size<=63) /\
  ∀ (TY:List Ty) (U:Ty),(∀ (j:Nat) (t:Ty),ks[j]?=some t->BB TY (id+1+az (kids.take j))=t) ->
   pR (T++[U]) ⟨aY k,p,aR,0,nm,aq rg,-1,(aA kids base).getD 0 (-1),(aA kids base).getD 1 (-1),(aA kids base).getD 2 (-1)⟩=iM TY (.node p k nm rg kids,id,site):=by
 have hkn:∀ (j:Nat) (t:Ty),ks[j]?=some t->ai T ((aA kids base).getD j (-1))=t/\∀ U,ai (T++[U]) ((aA kids base).getD j (-1))=t:=by
  intro j t ht
  obtain ⟨i,h1,h2⟩:=hK j t ht
  rw [h1]
  exact ⟨rC h2,fun U=>rB [U] h2⟩
 have bad:∀ (e q:Nat) (st:dM),st.e=0->e≠0->(cZ st e q).e≠0:=by
  intro e q st h1 h2;unfold cZ;rw [if_pos h1];exact h2
 have h0k:=hkn 0
 have FT:=hkn 1
 have Wm:=hkn 2
 clear hK hkn
 generalize (aA kids base).getD 0 (-1)=P0 at *
 generalize (aA kids base).getD 1 (-1)=P1 at *
 generalize (aA kids base).getD 2 (-1)=P2 at *
 cases k
 case aT =>
  match ks,hl,kids,hkl,FT with
  | [A,B],_,[a,b],_,FT=>simp [aP,cR,rD,pR,iM,(FT B rfl).1]
 case pair =>
  match ks,hl,kids,hkl,h0k,FT with
  | [A,B],_,[a,b],_,h0k,FT =>
   have e:aP cls .pair p site [A,B] st=(.p (aq rg).toNat A B,st):=by simp only [aP,bD,hc rfl];rfl
   rw [e] at hsz ⊢
   refine ⟨rfl,by simp [cR,nj,(h0k A rfl).1,(FT B rfl).1],fun _=>?_,fun TY U _=>by simp [pR,nj,iM]⟩
   rw [(h0k A rfl).1,(FT B rfl).1]
   exact hsz
 case fst =>
  match ks,hl,kids,hkl,h0k with
  | [.p r A B],_,[a],_,h0k=>simp [aP,bD,cR,rE,pR,iM,(h0k _ rfl).1,CH]
  | [.n],_,[a],_,_=>exact absurd he (by simp only [aP,bD];exact bad _ _ _ h0 (by decide))
 case snd =>
  match ks,hl,kids,hkl,h0k with
  | [.p r A B],_,[a],_,h0k=>simp [aP,bD,cR,rF,pR,iM,(h0k _ rfl).1,CI]
  | [.n],_,[a],_,_=>exact absurd he (by simp only [aP,bD];exact bad _ _ _ h0 (by decide))
 case dQ =>
  match ks,hl,kids,hkl,FT,Wm with
  | [A,B,C],_,[a,b,c],_,FT,Wm =>
   by_cases hc:A=.n/\B.bare=C.bare
   ·have e:aP cls .dQ p site [A,B,C] st=(B,st):=by simp only [aP,bD];rw [if_pos hc];rfl
    rw [e]
    refine ⟨rfl,by simp [cR,uN,(FT B rfl).1],by simp [uN],?_⟩
    intro TY U hT
    have t1:=hT 1 B rfl
    have t2:=hT 2 C rfl
    simp only [List.take,az,Nat.add_zero] at t1 t2
    rw [<- Nat.add_assoc] at t2
    simp only [pR,uN,iM,(FT B rfl).2,(Wm C rfl).2,t1,t2]
    by_cases hbc:B=C <;> simp [hbc]
   ·exact absurd he (by simp only [aP,bD];rw [if_neg hc];exact bad _ _ _ h0 (by decide))
 case loop =>
  match ks,hl,kids,hkl,FT,Wm with
  | [A,B,C],_,[a,b,c],_,FT,Wm =>
   by_cases hc:A=.n/\B.bare=C.bare
   ·have e:aP cls .loop p site [A,B,C] st=(B,st):=by simp only [aP,bD];rw [if_pos hc];rfl
    rw [e]
    refine ⟨rfl,by simp [cR,lR,(FT B rfl).1],by simp [lR],?_⟩
    intro TY U hT
    have t1:=hT 1 B rfl
    have t2:=hT 2 C rfl
    simp only [List.take,az,Nat.add_zero] at t1 t2
    rw [<- Nat.add_assoc] at t2
    simp only [pR,lR,iM,(FT B rfl).2,(Wm C rfl).2,t1,t2]
    by_cases hbc:B=C <;> simp [hbc]
   ·exact absurd he (by simp only [aP,bD];rw [if_neg hc];exact bad _ _ _ h0 (by decide))
 case new =>
  match ks,hl,kids,hkl,h0k with
  | [A],_,[a],_,h0k =>
   refine ⟨rfl,by simp [aP,bD,cR,xI,(h0k A rfl).1],by simp [xI],?_⟩
   intro TY U hT
   have t1:=hT 0 A rfl
   simp only [List.take,az,Nat.add_zero] at t1
   simp only [pR,xI,iM,(h0k A rfl).2,t1]
   by_cases hh:A.has (aq rg)=true <;> simp [hh]
 all_goals
  match ks,hl,kids,hkl with
  | [A,B],_,[a,b],_ =>
   by_cases hc:A=.n/\B=.n
   ·simp only [aP,bD]
    rw [if_pos hc]
    simp [cR,UX,UY,QS,pR,iM]
   ·exact absurd he (by simp only [aP,bD];rw [if_neg hc];exact bad _ _ _ h0 (by decide))
def Tk.z (t:Tk):Tk:={ t with at_:=0 }
def sk (l:List UInt8):List Tk:=(tokens l).map Tk.z
theorem FU:∀ (f p q:Nat) (l:List UInt8),(toks f p l).map Tk.z=(toks f q l).map Tk.z
 | 0,_,_,_=>rfl
 | _+1,_,_,[]=>rfl
 | f+1,p,q,c::r=>by
  simp only [toks]
  split
  ·exact FU f _ _ _
  ·simp only [List.map_cons];rw [FU f _ (q+(aK (c::r)).1)];rfl
theorem H7 (f p:Nat) (l:List UInt8) (h:l.length<=f):(toks f p l).map Tk.z=sk l:=by
 unfold sk tokens;rw [zL f l.length p l h (Nat.le_refl _)];exact FU _ _ _ _
theorem UZ:sk []=[]:=rfl
theorem M6 (c:UInt8) (r:List UInt8) (h:eu c=true):sk (c::r)=sk r:=by
 show (toks (r.length+1) 0 (c::r)).map Tk.z=_
 rw [vW _ _ _ _ h];exact H7 _ _ _ (Nat.le_refl _)
theorem xJ (a:UInt8) (t r:List UInt8) (c:Cl) (ha:eu a=false) (h:aK (a::(t++r))=(t.length+1,c)):sk (a::(t++r))=⟨a::t,0,c⟩::sk r:=by
 show (toks ((t++r).length+1) 0 (a::(t++r))).map Tk.z=_
 rw [Cq _ _ _ _ ha,h]
 simp only [List.map_cons,List.take_succ_cons,List.drop_succ_cons,List.take_left,List.drop_left]
 rw [H7 _ _ _ (by simp)];rfl
theorem vP (lo hi:Int):∀ (w r:List UInt8),(∀ c∈w,jX lo hi c=true)->(∀ c∈r.head?,jX lo hi c=false)->run lo hi (w++r)=w.length
 | [],[],_,_=>rfl
 | [],c::r,_,h=>by simp [run,h c (by simp)]
 | a::w,r,h,h'=>by
  simp only [List.cons_append,run,h a (by simp),if_true,List.length_cons]
  rw [vP lo hi w r (fun c hc=>h c (by simp [hc])) h']
def Stop (r:List UInt8):Prop:=∀ c∈r.head?,jX 97 122 c=false/\jX 48 57 c=false
theorem M7:Stop []:=by intro c h;simp at h
theorem nk (r:List UInt8):Stop (32::r):=by intro c h;simp at h;subst h;decide
theorem FW (r:List UInt8):Stop (41::r):=by intro c h;simp at h;subst h;decide
def xK (s:List UInt8):Prop:=s≠[]/\(∀ c∈s,jX 97 122 c=true)/\s.length<=8/\uU s=none
def xL (s:List UInt8) (m:Nat):Prop:=(∀ c∈s,jX 48 57 c=true)/\cj s m=true
theorem xM {lo hi:Int} {c:UInt8} (h:jX lo hi c=true):lo<=(c.toNat:Int)/\(c.toNat:Int)<=hi:=by
 unfold jX at h;simp only [Bool.and_eq_true,decide_eq_true_eq] at h;exact h
theorem QT {lo hi:Int} {c:UInt8} (h:(c.toNat:Int) < lo\/hi < (c.toNat:Int)):jX lo hi c=false:=by
 cases hb:jX lo hi c with
 | false=>rfl
 | true=>have:=xM hb;omega
theorem Aj {c:UInt8} (h:33<=c.toNat):eu c=false:=by
 unfold eu
 rw [Bool.or_eq_false_iff]
 constructor <;> (rw [beq_eq_false_iff_ne];rintro rfl;exact absurd h (by decide))
theorem H9 (w r:List UInt8) (hne:w≠[]) (hw:∀ c∈w,jX 97 122 c=true) (hr:Stop r):sk (w++r)=⟨w,0,ep w w.length⟩::sk r:=by
 have hrun:=vP 97 122 w r hw (fun c hc=>(hr c hc).1)
 cases w with
 | nil=>exact absurd rfl hne
 | cons a t =>
  have ha:=xM (hw a (by simp))
  refine xJ a t r _ (Aj (by omega)) ?_
  have hrun':run 97 122 (a::(t++r))=t.length+1:=hrun
  unfold aK
  rw [if_pos (by omega),hrun']
  simp
theorem Yn (k:Kw) (r:List UInt8) (hr:Stop r):sk (k.bytes++r)=⟨k.bytes,0,.kw k⟩::sk r:=by
 rw [H9 k.bytes r (by cases k <;> decide) (by cases k <;> decide) hr]
 unfold ep;rw [vV]
theorem Ia (s r:List UInt8) (h:xK s) (hr:Stop r):sk (s++r)=⟨s,0,.yX⟩::sk r:=by
 rw [H9 s r h.1 h.2.1 hr]
 unfold ep;rw [h.2.2.2];simp only;rw [if_pos h.2.2.1]
theorem Dy {s:List UInt8} {m:Nat} (h:cj s m=true):s≠[]:=by
 rintro rfl;simp [cj] at h
theorem U0 (s r:List UInt8) (h:xL s 4) (hr:Stop r):sk (s++r)=⟨s,0,.num⟩::sk r:=by
 have hrun:=vP 48 57 s r h.1 (fun c hc=>(hr c hc).2)
 have hne:=Dy h.2
 cases s with
 | nil=>exact absurd rfl hne
 | cons a t =>
  have ha:=xM (h.1 a (by simp))
  refine xJ a t r _ (Aj (by omega)) ?_
  have hrun':run 48 57 (a::(t++r))=t.length+1:=hrun
  have h0:run 97 122 (a::(t++r))=0:=by simp only [run];rw [QT (by omega)];simp
  unfold aK
  rw [if_neg (by omega),if_pos (by omega),hrun']
  simp only [List.take_succ_cons,List.take_left]
  rw [if_pos h.2]
theorem U1 (d r:List UInt8) (h:xL d 3) (hr:Stop r):sk (35::(d++r))=⟨35::d,0,.GS⟩::sk r:=by
 have hrun:=vP 48 57 d r h.1 (fun c hc=>(hr c hc).2)
 refine xJ 35 d r _ (by decide) ?_
 unfold aK
 rw [if_neg (by simp [run,jX]),if_neg (by simp [run,jX])]
 simp only [if_true]
 rw [hrun,List.take_left,if_pos h.2]
theorem U2 (r:List UInt8):sk (40::r)=⟨[40],0,.opn⟩::sk r:=by
 refine xJ 40 [] r _ (by decide) ?_
 unfold aK
 rw [if_neg (by simp [run,jX]),if_neg (by simp [run,jX])]
 simp
theorem U3 (r:List UInt8):sk (41::r)=⟨[41],0,.cls⟩::sk r:=by
 refine xJ 41 [] r _ (by decide) ?_
 unfold aK
 rw [if_neg (by simp [run,jX]),if_neg (by simp [run,jX])]
 simp
theorem Ib (r:List UInt8):sk (32::r)=sk r:=M6 32 r (by decide)
mutual
def PT.ok (ae:Bool):PT->Prop
 | .num _ s=>xL s 4
 | .name _ s=>xK s
 | .node _ k nm rg kids=>bV k ae≠[]/\kids.length=arity k/\(if k=.aT\/k=.loop then xK nm else nm=[])/\(if ae=true/\(k=.pair\/k=.new) then ∃ d,rg=35::d/\xL d 3 else rg=[])/\qx ae kids
def qx (ae:Bool):List PT->Prop
 | []=>True
 | t::r=>t.ok ae/\qx ae r
end
mutual
def PT.np:PT->PT
 | .num _ s=>.num 0 s
 | .name _ s=>.name 0 s
 | .node _ k nm rg kids=>.node 0 k nm rg (eX kids)
def eX:List PT->List PT
 | []=>[]
 | t::r=>t.np::eX r
end
def fP (rg:List UInt8):List UInt8:=if rg=[] then [] else 32::rg
mutual
def PT.tidy:PT->List UInt8
 | .num _ s=>s
 | .name _ s=>s
 | .node _ k nm rg kids=>40::(k.bytes++(fP rg++(bn k nm 0 (ct kids)++[41])))
def ct:List PT->List (List UInt8)
 | []=>[]
 | t::r=>t.tidy::ct r
end
def jv (k:Kw) (nm:List UInt8) (i:Nat) (x:List Tk):List Tk:=(if (k=.aT/\i=0)\/(k=.loop/\i=1) then [⟨nm,0,.yX⟩] else [])++x
def jN (k:Kw) (nm:List UInt8):Nat->List (List Tk)->List Tk
 | _,[]=>[]
 | i,x::r=>jv k nm i x++jN k nm (i+1) r
def sP (rg:List UInt8):List Tk:=if rg=[] then [] else [⟨rg,0,.GS⟩]
mutual
def PT.QU:PT->List Tk
 | .num _ s=>[⟨s,0,.num⟩]
 | .name _ s=>[⟨s,0,.yX⟩]
 | .node _ k nm rg kids=>⟨[40],0,.opn⟩::⟨k.bytes,0,.kw k⟩::(sP rg++(jN k nm 0 (oL kids)++[⟨[41],0,.cls⟩]))
def oL:List PT->List (List Tk)
 | []=>[]
 | t::r=>t.QU::oL r
end
theorem tV (k:Kw) (nm:List UInt8) (i:Nat) (l:List (List UInt8)) (r:List UInt8):Stop (bn k nm i l++(41::r)):=by
 cases l with
 | nil=>exact FW r
 | cons x l =>
  unfold bn bP
  split
  ·exact nk _
  ·exact nk _
mutual
theorem Ic {ae:Bool}:∀ (e:PT),e.ok ae->∀ r,Stop r->sk (e.tidy++r)=e.QU++sk r
 | .num _ s,h,r,hr=>U0 s r (by simpa only [PT.ok] using h) hr
 | .name _ s,h,r,hr=>Ia s r (by simpa only [PT.ok] using h) hr
 | .node _ k nm rg kids,h,r,hr=>by
  simp only [PT.ok] at h
  obtain ⟨_,_,hn,hg,hk⟩:=h
  have hj:=Dz (ae:=ae) kids hk k nm (fun hx=>by rw [if_pos hx] at hn;exact hn) 0 r
  simp only [PT.tidy,PT.QU,List.cons_append,List.append_assoc,List.nil_append]
  rw [U2,Yn,List.cons.injEq,List.cons.injEq]
  ·refine ⟨rfl,rfl,?_⟩
   unfold fP sP
   split
   ·exact hj
   ·rename_i e
    split at hg
    ·obtain ⟨d,rfl,hd⟩:=hg
     simp only [List.cons_append]
     rw [Ib,U1 d _ hd (tV _ _ _ _ _),hj];rfl
    ·exact absurd hg e
  ·unfold fP
   split
   ·exact tV _ _ _ _ _
   ·exact nk _
theorem Dz {ae:Bool}:∀ (kids:List PT),qx ae kids->∀ (k:Kw) (nm:List UInt8),((k=.aT\/k=.loop)->xK nm)->∀ (i:Nat) (r:List UInt8),sk (bn k nm i (ct kids)++(41::r))=jN k nm i (oL kids)++(⟨[41],0,.cls⟩::sk r)
 | [],_,k,nm,_,i,r=>by simp only [ct,oL,bn,jN,List.nil_append];exact U3 r
 | t::ts,h,k,nm,hn,i,r=>by
  simp only [qx] at h
  have ih:=Dz ts h.2 k nm hn (i+1) r
  have iht:=Ic t h.1 (bn k nm (i+1) (ct ts)++(41::r)) (tV _ _ _ _ _)
  simp only [ct,oL,bn,jN,bP,jv,List.append_assoc]
  split
  ·rename_i hc
   have hg:xK nm:=hn (hc.elim (fun h=>Or.inl h.1) (fun h=>Or.inr h.1))
   simp only [List.cons_append,List.nil_append]
   rw [Ib,Ia nm _ hg (nk _),Ib,iht,ih]
  ·simp only [List.cons_append,List.nil_append]
   rw [Ib,iht,ih]
end
mutual
theorem M8 {ae:Bool}:∀ (e:PT),e.ok ae->∀ r,PE ae (e.QU++r) e.np r
 | .num _ s,_,r=>by simp only [PT.QU,PT.np];exact .num (t:=⟨s,0,.num⟩) rfl
 | .name _ s,_,r=>by simp only [PT.QU,PT.np];exact .name (t:=⟨s,0,.yX⟩) rfl
 | .node _ k nm rg kids,h,r=>by
  simp only [PT.ok] at h
  obtain ⟨hw,hl,hn,hg,hk⟩:=h
  have hks:=M9 (ae:=ae) kids hk
  have ed:∀ (R:List Tk) (Ak sQ:List UInt8) (ks:List PT),PW ae (bV k ae) R Ak sQ ks r->R=sP rg++(jN k nm 0 (oL kids)++[⟨[41],0,.cls⟩])++r->Ak=nm->sQ=rg->ks=eX kids->PE ae ((PT.node 0 k nm rg kids).QU++r) (PT.node 0 k nm rg kids).np r:=by
   rintro R Ak sQ ks hp rfl rfl rfl rfl
   simp only [PT.QU,PT.np,List.cons_append]
   exact .node (t:=⟨[40],0,.opn⟩) (u:=⟨k.bytes,0,.kw k⟩) rfl rfl hw hp
  cases k with
  | aT =>
   match kids,hl,hks,ed with
   | [a,b],_,hks,ed =>
    simp only [bV] at ed
    simp only [true_or,if_true] at hn
    rw [if_neg (by simp)] at hg
    subst hg
    exact ed _ _ _ _ (.name (t:=⟨nm,0,.yX⟩) rfl (.e (hks a (by simp) _) (.e (hks b (by simp) _) (.close (t:=⟨[41],0,.cls⟩) rfl .nil)))) (by simp [sP,oL,jN,jv]) rfl rfl rfl
  | loop =>
   match kids,hl,hks,ed with
   | [a,b,c],_,hks,ed =>
    simp only [bV] at ed
    rw [if_neg (by simp)] at hg
    subst hg
    exact ed _ _ _ _ (.e (hks a (by simp) _) (.name (t:=⟨nm,0,.yX⟩) rfl (.e (hks b (by simp) _) (.e (hks c (by simp) _) (.close (t:=⟨[41],0,.cls⟩) rfl .nil))))) (by simp [sP,oL,jN,jv]) rfl rfl rfl
  | dQ =>
   match kids,hl,hks,ed with
   | [a,b,c],_,hks,ed =>
    simp only [bV] at ed
    rw [if_neg (by simp)] at hg
    rw [if_neg (by decide)] at hn
    subst hg;subst hn
    exact ed _ _ _ _ (.e (hks a (by simp) _) (.e (hks b (by simp) _) (.e (hks c (by simp) _) (.close (t:=⟨[41],0,.cls⟩) rfl .nil)))) (by simp [sP,oL,jN,jv]) rfl rfl rfl
  | fst =>
   match kids,hl,hks,ed with
   | [a],_,hks,ed =>
    simp only [bV] at ed
    rw [if_neg (by simp)] at hg
    rw [if_neg (by decide)] at hn
    subst hg;subst hn
    exact ed _ _ _ _ (.e (hks a (by simp) _) (.close (t:=⟨[41],0,.cls⟩) rfl .nil)) (by simp [sP,oL,jN,jv]) rfl rfl rfl
  | snd =>
   match kids,hl,hks,ed with
   | [a],_,hks,ed =>
    simp only [bV] at ed
    rw [if_neg (by simp)] at hg
    rw [if_neg (by decide)] at hn
    subst hg;subst hn
    exact ed _ _ _ _ (.e (hks a (by simp) _) (.close (t:=⟨[41],0,.cls⟩) rfl .nil)) (by simp [sP,oL,jN,jv]) rfl rfl rfl
  | add =>
   match kids,hl,hks,ed with
   | [a,b],_,hks,ed =>
    simp only [bV] at ed
    rw [if_neg (by simp)] at hg
    rw [if_neg (by decide)] at hn
    subst hg;subst hn
    exact ed _ _ _ _ (.e (hks a (by simp) _) (.e (hks b (by simp) _) (.close (t:=⟨[41],0,.cls⟩) rfl .nil))) (by simp [sP,oL,jN,jv]) rfl rfl rfl
  | sub =>
   match kids,hl,hks,ed with
   | [a,b],_,hks,ed =>
    simp only [bV] at ed
    rw [if_neg (by simp)] at hg
    rw [if_neg (by decide)] at hn
    subst hg;subst hn
    exact ed _ _ _ _ (.e (hks a (by simp) _) (.e (hks b (by simp) _) (.close (t:=⟨[41],0,.cls⟩) rfl .nil))) (by simp [sP,oL,jN,jv]) rfl rfl rfl
  | less =>
   match kids,hl,hks,ed with
   | [a,b],_,hks,ed =>
    simp only [bV] at ed
    rw [if_neg (by simp)] at hg
    rw [if_neg (by decide)] at hn
    subst hg;subst hn
    exact ed _ _ _ _ (.e (hks a (by simp) _) (.e (hks b (by simp) _) (.close (t:=⟨[41],0,.cls⟩) rfl .nil))) (by simp [sP,oL,jN,jv]) rfl rfl rfl
  | pair =>
   match kids,hl,hks,ed with
   | [a,b],_,hks,ed =>
    rw [if_neg (by decide)] at hn
    subst hn
    cases ae with
    | false =>
     simp only [bV] at ed
     rw [if_neg (by simp)] at hg
     subst hg
     exact ed _ _ _ _ (.e (hks a (by simp) _) (.e (hks b (by simp) _) (.close (t:=⟨[41],0,.cls⟩) rfl .nil))) (by simp [sP,oL,jN,jv]) rfl rfl rfl
    | true =>
     simp only [bV] at ed
     rw [if_pos (by simp)] at hg
     obtain ⟨d,rfl,hd⟩:=hg
     exact ed _ _ _ _ (.region (t:=⟨35::d,0,.GS⟩) rfl (.e (hks a (by simp) _) (.e (hks b (by simp) _) (.close (t:=⟨[41],0,.cls⟩) rfl .nil)))) (by simp [sP,oL,jN,jv]) rfl rfl rfl
  | new =>
   match kids,hl,hks,ed with
   | [a],_,hks,ed =>
    rw [if_neg (by decide)] at hn
    subst hn
    cases ae with
    | false=>exact absurd rfl hw
    | true =>
     simp only [bV] at ed
     rw [if_pos (by simp)] at hg
     obtain ⟨d,rfl,hd⟩:=hg
     exact ed _ _ _ _ (.region (t:=⟨35::d,0,.GS⟩) rfl (.e (hks a (by simp) _) (.close (t:=⟨[41],0,.cls⟩) rfl .nil))) (by simp [sP,oL,jN,jv]) rfl rfl rfl
theorem M9 {ae:Bool}:∀ (kids:List PT),qx ae kids->∀ x∈kids,∀ r,PE ae (x.QU++r) x.np r
 | [],_,x,hx,_=>by simp at hx
 | t::ts,h,x,hx,r=>by
  simp only [qx] at h
  rcases List.mem_cons.1 hx with hx | hx
  ·rw [hx];exact M8 t h.1 r
  ·exact M9 ts h.2 x hx r
end
theorem rG {l:List Tk} {t:Tk} {r:List Tk} (h:l.map Tk.z=t::r):∃ t2 r2,l=t2::r2/\t2.c=t.c/\t2.s=t.s/\r2.map Tk.z=r:=by
 cases l with
 | nil=>simp at h
 | cons a l =>
  simp only [List.map_cons,List.cons.injEq] at h
  exact ⟨a,l,rfl,by rw [<- h.1];rfl,by rw [<- h.1];rfl,h.2⟩
mutual
theorem PE.Sz {ae:Bool}:∀ {l:List Tk} {e:PT} {r:List Tk},PE ae l e r->∀ l2,l2.map Tk.z=l->∃ e2 r2,PE ae l2 e2 r2/\e2.np=e.np/\r2.map Tk.z=r
 | _,_,_,.num h,l2,h2=>by
  obtain ⟨t2,r2,rfl,hc,hs,hr⟩:=rG h2
  exact ⟨_,r2,.num (hc.trans h),by simp only [PT.np,hs],hr⟩
 | _,_,_,.name h,l2,h2=>by
  obtain ⟨t2,r2,rfl,hc,hs,hr⟩:=rG h2
  exact ⟨_,r2,.name (hc.trans h),by simp only [PT.np,hs],hr⟩
 | _,_,_,.node h1 h3 h4 h5,l2,h2=>by
  obtain ⟨t2,r2,rfl,hc,_,hr⟩:=rG h2
  obtain ⟨u2,r3,rfl,hc3,_,r9⟩:=rG hr
  obtain ⟨ks,r4,hp,hks,CX⟩:=PW.Sz h5 r3 r9
  exact ⟨_,r4,.node (hc.trans h1) (hc3.trans h3) h4 hp,by simp only [PT.np,hks],CX⟩
theorem PW.Sz {ae:Bool}:∀ {ws:List Wt} {l:List Tk} {nm rg:List UInt8} {kids:List PT} {r:List Tk},PW ae ws l nm rg kids r->∀ l2,l2.map Tk.z=l->∃ SA r2,PW ae ws l2 nm rg SA r2/\eX SA=eX kids/\r2.map Tk.z=r
 | _,_,_,_,_,_,.nil,l2,h2=>⟨[],l2,.nil,rfl,h2⟩
 | _,_,_,_,_,_,.close h h1,l2,h2=>by
  obtain ⟨t2,r2,rfl,hc,_,hr⟩:=rG h2
  obtain ⟨ks,r4,hp,hks,CX⟩:=PW.Sz h1 r2 hr
  exact ⟨ks,r4,.close (hc.trans h) hp,hks,CX⟩
 | _,_,_,_,_,_,.name h h1,l2,h2=>by
  obtain ⟨t2,r2,rfl,hc,hs,hr⟩:=rG h2
  obtain ⟨ks,r4,hp,hks,CX⟩:=PW.Sz h1 r2 hr
  exact ⟨ks,r4,by rw [<- hs];exact .name (hc.trans h) hp,hks,CX⟩
 | _,_,_,_,_,_,.region h h1,l2,h2=>by
  obtain ⟨t2,r2,rfl,hc,hs,hr⟩:=rG h2
  obtain ⟨ks,r4,hp,hks,CX⟩:=PW.Sz h1 r2 hr
  exact ⟨ks,r4,by rw [<- hs];exact .region (hc.trans h) hp,hks,CX⟩
 | _,_,_,_,_,_,.e h h1,l2,h2=>by
  obtain ⟨e2,r2,hp,he,hr⟩:=PE.Sz h l2 h2
  obtain ⟨ks,r4,ZO,hks,CX⟩:=PW.Sz h1 r2 hr
  exact ⟨_,r4,.e hp ZO,by simp only [eX,he,hks],CX⟩
end
mutual
theorem SB:∀ e:PT,e.np.np=e.np
 | .num _ _=>rfl
 | .name _ _=>rfl
 | .node _ _ _ _ kids=>by simp only [PT.np,Na kids]
theorem Na:∀ l:List PT,eX (eX l)=eX l
 | []=>rfl
 | t::r=>by simp only [eX,SB t,Na r]
end
theorem BC {ae:Bool} (e:PT) (h:e.ok ae):∃ e2,PE ae (tokens e.tidy) e2 []/\e2.np=e.np:=by
 have hs:=Ic e h [] M7
 rw [List.append_nil,UZ] at hs
 obtain ⟨e2,r2,hp,he,hr⟩:=(M8 e h []).Sz (tokens e.tidy) hs
 have:r2=[]:=by simpa using hr
 subst this
 exact ⟨e2,hp,he.trans (SB e)⟩
inductive KE where
 | num (n:Nat)
 | var (n:Nat)
 | n1 (k:Kw) (a:KE)
 | n2 (k:Kw) (n:Nat) (a b:KE)
 | n3 (k:Kw) (n:Nat) (a b c:KE)
def lf (c:Int) (n:Nat):Nat:=(Int.tmod (if c < 0 then -(c+1) else c) n).toNat
theorem sR (c:Int) (n:Nat) (h:0 < n):lf c n < n:=by
 unfold lf
 have h1:0<=(if c < 0 then -(c+1) else c):=by split <;> omega
 have:=Int.tmod_lt_of_pos (if c < 0 then -(c+1) else c) (show (0:Int) < n by omega)
 have:=Int.tmod_nonneg (n:Int) h1
 omega
structure jg where
 at_:Nat
 left:Nat
 vars:List Nat
def aL (raw:List Int) (n:Nat) (s:jg):Nat × jg :=
 if raw=[] then (0,s) else (lf (raw.getD (s.at_ % raw.length) 0) n,{ s with at_:=s.at_+1 })
theorem cI (raw:List Int) (n:Nat) (s:jg) (h:0 < n):(aL raw n s).1 < n:=by
 unfold aL;split
 ·exact h
 ·exact sR _ n h
theorem bW (raw:List Int) (n:Nat) (s:jg):(aL raw n s).2.left=s.left/\(aL raw n s).2.vars=s.vars/\s.at_<=(aL raw n s).2.at_/\(aL raw n s).2.at_<=s.at_+1:=by
 unfold aL;split
 ·exact ⟨rfl,rfl,Nat.le_refl _,Nat.le_succ _⟩
 ·exact ⟨rfl,rfl,Nat.le_succ _,Nat.le_refl _⟩
def idxs (vars:List Nat) (t n:Nat):List Nat:=(List.range n).filter (fun i=>vars.getD i 9 == t)
def jV (vars:List Nat) (t k:Nat):Option KE :=
 if (idxs vars t vars.length)=[] then none else some (.var ((idxs vars t vars.length).getD (k % (idxs vars t vars.length).length) 0))
def fT (t:Nat):Nat:=if t=2\/t=4 then 1 else 0
def sT (t:Nat):Nat:=if t=3\/t=4 then 1 else 0
def fI (t:Nat):Int:=if t=0 then -1 else fT t
def sI (t:Nat):Int:=if t=0 then -1 else sT t
def dJ (raw:List Int):Nat->Nat->jg->KE × jg
 | 0,_,s=>(.num 0,s)
 | f+1,t,s =>
  let x:=aL raw 7 s
  match (if 1 < x.1 then jV x.2.vars t x.1 else none) with
  | some y=>(y,x.2)
  | none =>
   if t=0 then (.num (aL raw 60 x.2).1,(aL raw 60 x.2).2)
   else
    let a:=dJ raw f (fT t) x.2
    let b:=dJ raw f (sT t) a.2
    (.n2 .pair 0 a.1 b.1,b.2)
def iN (t k:Nat):Nat->Nat->Option (Kw × Nat)
 | _,0=>none
 | i,n+1 =>
  if (i+k) / 5 % 2=1 then (if sI ((i+k) % 5)=t then some (.snd,(i+k) % 5) else iN t k (i+1) n)
  else (if fI ((i+k) % 5)=t then some (.fst,(i+k) % 5) else iN t k (i+1) n)
def QV (n:Nat):Kw:=if n=0 then .add else if n=1 then .sub else .less
def fj (g:Nat->jg->KE × jg) (v t:Nat) (s:jg):KE × jg :=
 let x:=g t { s with vars:=s.vars++[v] }
 (x.1,{ x.2 with vars:=x.2.vars.take s.vars.length })
def aS (raw:List Int):Nat->Nat->jg->KE × jg
 | 0,t,s=>dJ raw 3 t s
 | f+1,t,s =>
  if s.left=0 then dJ raw 3 t s else
  let x:=aL raw 9 { s with left:=s.left - 1 }
  if x.1=0 then
   let v:=aL raw 5 x.2
   let a:=aS raw f v.1 v.2
   let b:=fj (aS raw f) v.1 t a.2
   (.n2 .aT b.2.vars.length a.1 b.1,b.2)
  else if x.1=1 then
   let a:=aS raw f 0 x.2
   let b:=aS raw f t a.2
   let c:=aS raw f t b.2
   (.n3 .dQ 0 a.1 b.1 c.1,c.2)
  else if x.1=2\/x.1=3 then
   let k:=aL raw 4 x.2
   match iN t k.1 0 10 with
   | some q=>(.n1 q.1 (aS raw f q.2 k.2).1,(aS raw f q.2 k.2).2)
   | none=>dJ raw 3 t k.2
  else if x.1=4 then
   let n:=aL raw 4 x.2
   let a:=aS raw f t n.2
   let b:=fj (aS raw f) t t a.2
   (.n3 .loop b.2.vars.length (.num n.1) a.1 b.1,b.2)
  else if x.1 < 8 then
   if t=0 then
    let o:=aL raw 3 x.2
    let a:=aS raw f 0 o.2
    let b:=aS raw f 0 a.2
    (.n2 (QV o.1) 0 a.1 b.1,b.2)
   else
    let a:=aS raw f (fT t) x.2
    let b:=aS raw f (sT t) a.2
    (.n2 .pair 0 a.1 b.1,b.2)
  else dJ raw 3 t x.2
def rH (t:Int) (raw:List Int):KE:=(aS raw 25 (lf t 5) ⟨0,24,[]⟩).1
inductive KT:List Nat->KE->Nat->Prop
 | num {vs:List Nat} {n:Nat} (h:n<=59):KT vs (.num n) 0
 | var {vs:List Nat} {n t:Nat} (h:vs[n]?=some t):KT vs (.var n) t
 | aT {vs:List Nat} {a b:KE} {v t:Nat} (hv:v < 5) (hl:vs.length < 100) (ha:KT vs a v) (hb:KT (vs++[v]) b t):KT vs (.n2 .aT vs.length a b) t
 | dQ {vs:List Nat} {a b c:KE} {t:Nat} (ha:KT vs a 0) (hb:KT vs b t) (hc:KT vs c t):KT vs (.n3 .dQ 0 a b c) t
 | loop {vs:List Nat} {a b c:KE} {t:Nat} (hl:vs.length < 100) (ha:KT vs a 0) (hb:KT vs b t) (hc:KT (vs++[t]) c t):KT vs (.n3 .loop vs.length a b c) t
 | pair {vs:List Nat} {a b:KE} {t:Nat} (h0:t≠0) (ht:t < 5) (ha:KT vs a (fT t)) (hb:KT vs b (sT t)):KT vs (.n2 .pair 0 a b) t
 | fst {vs:List Nat} {a:KE} {p:Nat} (h0:p≠0) (hp:p < 5) (ha:KT vs a p):KT vs (.n1 .fst a) (fT p)
 | snd {vs:List Nat} {a:KE} {p:Nat} (h0:p≠0) (hp:p < 5) (ha:KT vs a p):KT vs (.n1 .snd a) (sT p)
 | two {vs:List Nat} {k:Kw} {a b:KE} (hk:k=.add\/k=.sub\/k=.less) (ha:KT vs a 0) (hb:KT vs b 0):KT vs (.n2 k 0 a b) 0
def KE.bK:KE->Nat
 | .num _=>0
 | .var _=>0
 | .n1 _ a=>a.bK
 | .n2 k _ a b=>(if k=.pair then 1 else 0)+a.bK+b.bK
 | .n3 _ _ a b c=>a.bK+b.bK+c.bK
def KE.cnt:KE->Nat
 | .num _=>1
 | .var _=>1
 | .n1 _ a=>1+a.cnt
 | .n2 _ _ a b=>1+a.cnt+b.cnt
 | .n3 _ _ a b c=>1+a.cnt+b.cnt+c.cnt
def KE.len:KE->Nat
 | .num _=>3
 | .var _=>3
 | .n1 _ a=>6+a.len
 | .n2 k _ a b=>(if k=.aT then 11 else 8)+a.len+b.len
 | .n3 k _ a b c=>(if k=.loop then 13 else 7)+a.len+b.len+c.len
def nN (t:Nat):Nat:=if t=0 then 3 else if t=1 then 14 else if t=4 then 36 else 25
def EY (t:Nat):Nat:=if t=0 then 0 else if t=1 then 1 else if t=4 then 3 else 2
def nO (t:Nat):Nat:=if t=0 then 1 else if t=1 then 3 else if t=4 then 7 else 5
def BD (t:Nat):Nat:=if t=0 then 2 else if t=1 then 5 else if t=4 then 11 else 8
structure MkO (t:Nat) (s:jg) (y:KE × jg):Prop where
 ty:KT s.vars y.1 t
 vars:y.2.vars=s.vars
 left:y.2.left<=s.left
 len:y.1.len+53 * y.2.left<=nN t+53 * s.left
 bK:y.1.bK+3 * y.2.left<=EY t+3 * s.left
 cnt:y.1.cnt+9 * y.2.left<=nO t+9 * s.left
 at_:y.2.at_+40 * y.2.left<=s.at_+BD t+40 * s.left
 at':s.at_<=y.2.at_
theorem J2 {vars:List Nat} {t k:Nat} {y:KE} (h:jV vars t k=some y):∃ n,y=.var n/\vars[n]?=some t/\n < vars.length:=by
 unfold jV at h
 split at h
 ·cases h
 ·rename_i hne
  simp only [Option.some.injEq] at h
  have hpos:0 < (idxs vars t vars.length).length:=List.length_pos_iff.2 hne
  have hlt:=Nat.mod_lt k hpos
  refine ⟨_,h.symm,?_⟩
  have hmem:(idxs vars t vars.length).getD (k % (idxs vars t vars.length).length) 0∈idxs vars t vars.length:=by
   rw [List.getD_eq_getElem?_getD,List.getElem?_eq_getElem hlt,Option.getD_some];exact List.getElem_mem hlt
  generalize (idxs vars t vars.length).getD (k % (idxs vars t vars.length).length) 0=n at hmem
  unfold idxs at hmem
  rw [List.mem_filter,List.mem_range] at hmem
  have e:=hmem.2
  rw [List.getD_eq_getElem?_getD,List.getElem?_eq_getElem hmem.1,Option.getD_some] at e
  rw [List.getElem?_eq_getElem hmem.1]
  exact ⟨by simpa using e,hmem.1⟩
theorem Nb {t:Nat}:3<=nN t/\1<=nO t/\2<=BD t:=by
 unfold nN nO BD
 by_cases h0:t=0
 ·subst h0;decide
 ·by_cases h1:t=1
  ·subst h1;decide
  ·by_cases h4:t=4
   ·subst h4;decide
   ·simp [h0,h1,h4]
theorem xN {t:Nat} (ht:t < 5) (h0:t≠0):8+nN (fT t)+nN (sT t)=nN t/\1+EY (fT t)+EY (sT t)=EY t/\1+nO (fT t)+nO (sT t)=nO t/\1+BD (fT t)+BD (sT t)=BD t/\fT t < 5/\sT t < 5:=by
 have h:∀ t < 5,t≠0->(8+nN (fT t)+nN (sT t)=nN t/\1+EY (fT t)+EY (sT t)=EY t/\1+nO (fT t)+nO (sT t)=nO t/\1+BD (fT t)+BD (sT t)=BD t/\fT t < 5/\sT t < 5):=by decide
 exact h t ht h0
def dep (t:Nat):Nat:=if t=0 then 0 else if t=1 then 1 else 2
theorem tW {t:Nat} (ht:t < 5) (h0:t≠0):dep (fT t) < dep t/\dep (sT t) < dep t:=by
 have h:∀ t < 5,t≠0->(dep (fT t) < dep t/\dep (sT t) < dep t):=by decide
 exact h t ht h0
theorem lg (raw:List Int):∀ (f t:Nat) (s:jg),t < 5->dep t < f->MkO t s (dJ raw f t s)
 | 0,_,_,_,h=>by omega
 | f+1,t,s,ht,hd=>by
  simp only [dJ]
  have hn:=bW raw 7 s
  generalize aL raw 7 s=x at hn
  have hW:=@Nb t
  split
  ·rename_i y hy
   split at hy
   ·obtain ⟨n,rfl,h1,_⟩:=J2 hy
    rw [hn.2.1] at h1
    refine ⟨.var h1,hn.2.1,by simp only;omega,?_,?_,?_,?_,?_⟩ <;> simp only [KE.len,KE.bK,KE.cnt,hn.1] <;> omega
   ·cases hy
  ·split
   ·rename_i h0
    subst h0
    have hm:=bW raw 60 x.2
    have hl:=cI raw 60 x.2 (by omega)
    generalize aL raw 60 x.2=z at hm hl
    refine ⟨.num (by omega),by rw [hm.2.1,hn.2.1],by simp only;omega,?_,?_,?_,?_,?_⟩ <;> simp only [KE.len,KE.bK,KE.cnt,hm.1,hn.1] <;> omega
   ·rename_i h0
    have hp:=xN ht h0
    have Z9:=tW ht h0
    have ha:=lg raw f (fT t) x.2 hp.2.2.2.2.1 (by omega)
    generalize dJ raw f (fT t) x.2=a at ha
    have hb:=lg raw f (sT t) a.2 hp.2.2.2.2.2 (by omega)
    generalize dJ raw f (sT t) a.2=b at hb
    obtain ⟨a1,a2,a3,a4,a5,a6,a7,a8⟩:=ha
    obtain ⟨b1,b2,b3,b4,b5,b6,b7,b8⟩:=hb
    rw [a2,hn.2.1] at b1 b2
    rw [hn.2.1] at a1
    refine ⟨.pair h0 ht a1 b1,b2,by simp only;omega,?_,?_,?_,?_,?_⟩ <;> simp only [KE.len,KE.bK,KE.cnt,if_true] <;> first | omega | (rw [if_neg (by decide)];omega)
theorem DA:∀ t < 5,∀ k < 4,∀ q,iN t k 0 10=some q->q.2≠0/\q.2 < 5/\((q.1=.fst/\fT q.2=t)\/(q.1=.snd/\sT q.2=t))/\nN q.2<=nN t+40/\EY q.2<=EY t+3/\nO q.2<=nO t+7/\BD q.2<=BD t+10:=by
 have h:∀ t < 5,∀ k < 4,(iN t k 0 10).all (fun q=>decide (q.2≠0/\q.2 < 5/\((q.1=.fst/\fT q.2=t)\/(q.1=.snd/\sT q.2=t))/\nN q.2<=nN t+40/\EY q.2<=EY t+3/\nO q.2<=nO t+7/\BD q.2<=BD t+10))=true:=by decide
 intro t ht k hk q hq
 have:=h t ht k hk
 rw [hq] at this
 simpa only [Option.all_some,decide_eq_true_eq] using this
theorem vk {t:Nat}:nN t<=36/\EY t<=3/\nO t<=7/\BD t<=11:=by
 unfold nN EY nO BD
 by_cases h0:t=0
 ·subst h0;decide
 ·by_cases h1:t=1
  ·subst h1;decide
  ·by_cases h4:t=4
   ·subst h4;decide
   ·simp [h0,h1,h4]
theorem sS {g:Nat->jg->KE × jg} {v t:Nat} {s:jg} (h:MkO t { s with vars:=s.vars++[v] } (g t { s with vars:=s.vars++[v] })) :
  KT (s.vars++[v]) (fj g v t s).1 t/\(fj g v t s).2.vars=s.vars/\(fj g v t s).2.left<=s.left/\(fj g v t s).1.len+53 * (fj g v t s).2.left<=nN t+53 * s.left/\(fj g v t s).1.bK+3 * (fj g v t s).2.left<=EY t+3 * s.left/\(fj g v t s).1.cnt+9 * (fj g v t s).2.left<=nO t+9 * s.left/\(fj g v t s).2.at_+40 * (fj g v t s).2.left<=s.at_+BD t+40 * s.left/\s.at_<=(fj g v t s).2.at_:=by
 unfold fj
 refine ⟨h.ty,?_,h.left,h.len,h.bK,h.cnt,h.at_,h.at'⟩
 simp only [h.vars,List.take_left]
theorem bX (raw:List Int):∀ (f t:Nat) (s:jg),t < 5->s.left < f->s.vars.length+s.left<=100->MkO t s (aS raw f t s)
 | 0,_,_,_,h,_=>by omega
 | f+1,t,s,ht,hf,hv=>by
  simp only [aS]
  have hW:=@vk t
  have hWp:=@Nb t
  split
  ·exact lg raw 3 t s ht (by unfold dep;split <;> (try split) <;> omega)
  rename_i QW
  have hn:=bW raw 9 { s with left:=s.left - 1 }
  generalize aL raw 9 { s with left:=s.left - 1 }=x at hn
  simp only at hn
  obtain ⟨n1,n2,n3,n4⟩:=hn
  split
  ·have hm:=bW raw 5 x.2
   have Ck:=cI raw 5 x.2 (by omega)
   generalize aL raw 5 x.2=v at hm Ck
   obtain ⟨m1,m2,m3,m4⟩:=hm
   have ha:=bX raw f v.1 v.2 Ck (by omega) (by rw [m2,n2];omega)
   generalize aS raw f v.1 v.2=a at ha
   obtain ⟨a1,a2,a3,a4,a5,a6,a7,a8⟩:=ha
   have hb:=sS (v:=v.1) (bX raw f t { a.2 with vars:=a.2.vars++[v.1] } ht (by simp only;omega) (by simp only [List.length_append,List.length_singleton,a2,m2,n2];omega))
   generalize fj (aS raw f) v.1 t a.2=b at hb
   obtain ⟨b1,b2,b3,b4,b5,b6,b7,b8⟩:=hb
   rw [a2,m2,n2] at b1 b2
   rw [m2,n2] at a1
   have hWv:=@vk v.1
   rw [b2]
   refine ⟨.aT Ck (by omega) a1 b1,b2,by simp only;omega,?_,?_,?_,?_,?_⟩ <;> simp only [KE.len,KE.bK,KE.cnt,if_true] <;> first | omega | (rw [if_neg (by decide)];omega)
  split
  ·have ha:=bX raw f 0 x.2 (by omega) (by omega) (by rw [n2];omega)
   generalize aS raw f 0 x.2=a at ha
   obtain ⟨a1,a2,a3,a4,a5,a6,a7,a8⟩:=ha
   have hb:=bX raw f t a.2 ht (by omega) (by rw [a2,n2];omega)
   generalize aS raw f t a.2=b at hb
   obtain ⟨b1,b2,b3,b4,b5,b6,b7,b8⟩:=hb
   have hc:=bX raw f t b.2 ht (by omega) (by rw [b2,a2,n2];omega)
   generalize aS raw f t b.2=c at hc
   obtain ⟨c1,c2,c3,c4,c5,c6,c7,c8⟩:=hc
   rw [b2,a2,n2] at c1 c2
   rw [a2,n2] at b1
   rw [n2] at a1
   have e0:nN 0=3/\EY 0=0/\nO 0=1/\BD 0=2:=by decide
   refine ⟨.dQ a1 b1 c1,c2,by simp only;omega,?_,?_,?_,?_,?_⟩ <;> simp only [KE.len,KE.bK,KE.cnt] <;> first | omega | (rw [if_neg (by decide)];omega)
  split
  ·have hm:=bW raw 4 x.2
   have sU:=cI raw 4 x.2 (by omega)
   generalize aL raw 4 x.2=k at hm sU
   obtain ⟨m1,m2,m3,m4⟩:=hm
   split
   ·rename_i q hq
    have hq':=DA t ht k.1 sU q hq
    have ha:=bX raw f q.2 k.2 hq'.2.1 (by omega) (by rw [m2,n2];omega)
    generalize aS raw f q.2 k.2=a at ha
    obtain ⟨a1,a2,a3,a4,a5,a6,a7,a8⟩:=ha
    rw [m2,n2] at a1 a2
    have hty:KT s.vars (.n1 q.1 a.1) t:=by
     rcases hq'.2.2.1 with ⟨e1,e2⟩ | ⟨e1,e2⟩
     ·rw [e1,<- e2];exact .fst hq'.1 hq'.2.1 a1
     ·rw [e1,<- e2];exact .snd hq'.1 hq'.2.1 a1
    refine ⟨hty,a2,by simp only;omega,?_,?_,?_,?_,?_⟩ <;> simp only [KE.len,KE.bK,KE.cnt] <;> omega
   ·have ha:=lg raw 3 t k.2 ht (by unfold dep;split <;> (try split) <;> omega)
    generalize dJ raw 3 t k.2=a at ha
    obtain ⟨a1,a2,a3,a4,a5,a6,a7,a8⟩:=ha
    rw [m2,n2] at a1 a2
    exact ⟨a1,a2,by omega,by omega,by omega,by omega,by omega,by omega⟩
  split
  ·have hm:=bW raw 4 x.2
   have sU:=cI raw 4 x.2 (by omega)
   generalize aL raw 4 x.2=n at hm sU
   obtain ⟨m1,m2,m3,m4⟩:=hm
   have ha:=bX raw f t n.2 ht (by omega) (by rw [m2,n2];omega)
   generalize aS raw f t n.2=a at ha
   obtain ⟨a1,a2,a3,a4,a5,a6,a7,a8⟩:=ha
   have hb:=sS (v:=t) (bX raw f t { a.2 with vars:=a.2.vars++[t] } ht (by simp only;omega) (by simp only [List.length_append,List.length_singleton,a2,m2,n2];omega))
   generalize fj (aS raw f) t t a.2=b at hb
   obtain ⟨b1,b2,b3,b4,b5,b6,b7,b8⟩:=hb
   rw [a2,m2,n2] at b1 b2
   rw [m2,n2] at a1
   rw [b2]
   refine ⟨.loop (by omega) (.num (by omega)) a1 b1,b2,by simp only;omega,?_,?_,?_,?_,?_⟩ <;> simp only [KE.len,KE.bK,KE.cnt,if_true] <;> omega
  split
  ·split
   ·rename_i h0
    subst h0
    have hm:=bW raw 3 x.2
    generalize aL raw 3 x.2=o at hm
    obtain ⟨m1,m2,m3,m4⟩:=hm
    have ha:=bX raw f 0 o.2 ht (by omega) (by rw [m2,n2];omega)
    generalize aS raw f 0 o.2=a at ha
    obtain ⟨a1,a2,a3,a4,a5,a6,a7,a8⟩:=ha
    have hb:=bX raw f 0 a.2 ht (by omega) (by rw [a2,m2,n2];omega)
    generalize aS raw f 0 a.2=b at hb
    obtain ⟨b1,b2,b3,b4,b5,b6,b7,b8⟩:=hb
    rw [a2,m2,n2] at b1 b2
    rw [m2,n2] at a1
    have hk:QV o.1=.add\/QV o.1=.sub\/QV o.1=.less:=by unfold QV;split <;> (try split) <;> simp
    have hk1:QV o.1≠.aT/\QV o.1≠.pair:=by rcases hk with h | h | h <;> rw [h] <;> decide
    have e0:nN 0=3/\EY 0=0/\nO 0=1/\BD 0=2:=by decide
    refine ⟨.two hk a1 b1,b2,by simp only;omega,?_,?_,?_,?_,?_⟩ <;> simp only [KE.len,KE.bK,KE.cnt,if_neg hk1.1,if_neg hk1.2] <;> omega
   ·rename_i h0
    have hp:=xN ht h0
    have ha:=bX raw f (fT t) x.2 hp.2.2.2.2.1 (by omega) (by rw [n2];omega)
    generalize aS raw f (fT t) x.2=a at ha
    obtain ⟨a1,a2,a3,a4,a5,a6,a7,a8⟩:=ha
    have hb:=bX raw f (sT t) a.2 hp.2.2.2.2.2 (by omega) (by rw [a2,n2];omega)
    generalize aS raw f (sT t) a.2=b at hb
    obtain ⟨b1,b2,b3,b4,b5,b6,b7,b8⟩:=hb
    rw [a2,n2] at b1 b2
    rw [n2] at a1
    refine ⟨.pair h0 ht a1 b1,b2,by simp only;omega,?_,?_,?_,?_,?_⟩ <;> simp only [KE.len,KE.bK,KE.cnt,if_true] <;> first | omega | (rw [if_neg (by decide)];omega)
  ·have ha:=lg raw 3 t x.2 ht (by unfold dep;split <;> (try split) <;> omega)
   generalize dJ raw 3 t x.2=a at ha
   obtain ⟨a1,a2,a3,a4,a5,a6,a7,a8⟩:=ha
   rw [n2] at a1 a2
   exact ⟨a1,a2,by omega,by omega,by omega,by omega,by omega,by omega⟩
theorem Nc (t:Int) (raw:List Int):KT [] (rH t raw) (lf t 5)/\(rH t raw).len<=1308/\(rH t raw).bK<=75/\(rH t raw).cnt<=223:=by
 have h:=bX raw 25 (lf t 5) ⟨0,24,[]⟩ (sR t 5 (by omega)) (by simp) (by simp)
 have hW:=@vk (lf t 5)
 have h2:=h.len
 have h3:=h.bK
 have h4:=h.cnt
 simp only at h2 h3 h4
 exact ⟨h.ty,by show (aS raw 25 (lf t 5) ⟨0,24,[]⟩).1.len<=_;omega,by show (aS raw 25 (lf t 5) ⟨0,24,[]⟩).1.bK<=_;omega,by show (aS raw 25 (lf t 5) ⟨0,24,[]⟩).1.cnt<=_;omega⟩
end Go.Proofs.YtpicaknklgccoabGreatDoor
