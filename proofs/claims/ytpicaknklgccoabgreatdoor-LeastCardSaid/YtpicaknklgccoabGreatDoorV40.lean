import Derived.Test.YtpicaknklgccoabGreatDoorV39
set_option maxHeartbeats 2000000
namespace Go.Proofs.YtpicaknklgccoabGreatDoor
open Go.Lib (decDigits)
mutual
theorem gX:∀ (e:PT) {G:aV} {T:Ty},jE G e.np T->jE G e T
 | .num _ _,_,_,h=>by cases h with | num h=>exact .num h
 | .name _ _,_,_,h=>by cases h with | name h=>exact .name h
 | .node p k nm rg kids,G,T,h=>by
  match kids with
  | []=>simp only[PT.np,dN] at h;cases h
  | [a] =>
   simp only[PT.np,dN] at h
   cases h with
   | fst h=>exact .fst (gX a h)
   | snd h=>exact .snd (gX a h)
   | new h hm=>exact .new (gX a h) hm
  | [a,b] =>
   simp only[PT.np,dN] at h
   cases h with
   | aP h1 h2=>exact .aP (gX a h1) (gX b h2)
   | pair hr h1 h2=>exact .pair hr (gX a h1) (gX b h2)
   | two hk h1 h2=>exact .two hk (gX a h1) (gX b h2)
  | [a,b,c] =>
   simp only[PT.np,dN] at h
   cases h with
   | di h1 h2 h3=>exact .di (gX a h1) (gX b h2) (gX c h3)
   | loop h1 h2 h3=>exact .loop (gX a h1) (gX b h2) (gX c h3)
  | _::_::_::_::_=>simp only[PT.np,dN] at h;cases h
end
mutual
theorem PH {b:Bool}:∀ e:PT,e.np.ok b->e.ok b
 | .num _ _,h=>h
 | .name _ _,h=>h
 | .node _ k nm rg kids,h=>by
  simp only[PT.np,PT.ok,FD] at h ⊢;exact⟨h.1,h.2.1,h.2.2.1,h.2.2.2.1,Ke kids h.2.2.2.2⟩
theorem Ke {b:Bool}:∀ l:List PT,pW b (dN l)->pW b l
 | [],h=>h
 | t::r,h=>by
  simp only[dN,pW] at h ⊢;exact⟨PH t h.1,Ke r h.2⟩
theorem FD:∀ l:List PT,(dN l).length=l.length
 | []=>rfl
 | t::r=>by simp only[dN,List.length_cons,FD r]
end
mutual
theorem kx (fuel:Nat) (regs news:List Int):∀ (e:PT) (b:Nat) (env:ep) (st:cu),dC e->e.bQ->ev fuel (e.gi regs news b).era env st=ev fuel e env st
 | .num p s,_,env,st,_,ht=>by
  simp only[PT.bQ] at ht;simp only[PT.gi,PT.era,ev];rw[iP,Int.toNat_of_nonneg ht.1]
 | .name _ _,_,_,_,_,_=>rfl
 | .node _ k nm rg kids,b,env,st,hn,ht=>by
  cases hn with
  | node hk hn =>
  simp only[PT.bQ] at ht;simp only[PT.gi,PT.era,if_neg hk,ev]
  congr 1
  funext st
  rw[Mb fuel regs news nm kids b env st hn ht.2,PI fuel regs news kids b env st hn ht.2,IQ fuel regs news nm kids b env st hn ht.2,zQ fuel regs news kids b env st hn ht.2]
theorem zQ (fuel:Nat) (regs news:List Int):∀ (l:List PT) (b:Nat) (env:ep) (st:cu),(∀ x∈l,dC x)->bH l->bM fuel (eI (iz regs news l b)) env st=bM fuel l env st
 | [],_,_,_,_,_=>rfl
 | t::r,b,env,st,hn,ht=>by
  simp only[bH] at ht;simp only[iz,eI,j8,bM,kx fuel regs news t b env st (hn t (by simp)) ht.1];simp only[zQ fuel regs news r (b+t.cnt) _ _ (λx hx=>hn x (by simp[hx])) ht.2]
theorem Mb (fuel:Nat) (regs news:List Int) (nm:List UInt8):∀ (l:List PT) (b:Nat) (env:ep) (st:cu),(∀ x∈l,dC x)->bH l->gM fuel nm (eI (iz regs news l b)) env st=gM fuel nm l env st
 | [],_,_,_,_,_=>rfl
 | [_],_,_,_,_,_=>rfl
 | [x,y],b,env,st,hn,ht=>by
  simp only[bH] at ht;simp only[iz,eI,j8,gM];simp only[kx fuel regs news x _ _ _ (hn x (by simp)) ht.1,kx fuel regs news y _ _ _ (hn y (by simp)) ht.2.1]
 | _::_::_::_,_,_,_,_,_=>rfl
theorem PI (fuel:Nat) (regs news:List Int):∀ (l:List PT) (b:Nat) (env:ep) (st:cu),(∀ x∈l,dC x)->bH l->mw fuel (eI (iz regs news l b)) env st=mw fuel l env st
 | [],_,_,_,_,_=>rfl
 | [_],_,_,_,_,_=>rfl
 | [_,_],_,_,_,_,_=>rfl
 | [x,y,z],b,env,st,hn,ht=>by
  simp only[bH] at ht;simp only[iz,eI,j8,mw];simp only[kx fuel regs news x _ _ _ (hn x (by simp)) ht.1,kx fuel regs news y _ _ _ (hn y (by simp)) ht.2.1,kx fuel regs news z _ _ _ (hn z (by simp)) ht.2.2.1]
 | _::_::_::_::_,_,_,_,_,_=>rfl
theorem IQ (fuel:Nat) (regs news:List Int) (nm:List UInt8):∀ (l:List PT) (b:Nat) (env:ep) (st:cu),(∀ x∈l,dC x)->bH l->eu fuel nm (eI (iz regs news l b)) env st=eu fuel nm l env st
 | [],_,_,_,_,_=>rfl
 | [_],_,_,_,_,_=>rfl
 | [_,_],_,_,_,_,_=>rfl
 | [x,y,z],b,env,st,hn,ht=>by
  simp only[bH] at ht;simp only[iz,eI,j8,eu];simp only[kx fuel regs news x _ _ _ (hn x (by simp)) ht.1,kx fuel regs news y _ _ _ (hn y (by simp)) ht.2.1,kx fuel regs news z _ _ _ (hn z (by simp)) ht.2.2.1]
 | _::_::_::_::_,_,_,_,_,_=>rfl
end
def Dg (news:List Int) (lo hi:Nat):Nat:=(news.filter (λa=>decide ((lo:Int)<=a) && decide (a<(hi:Int)))).length
theorem zT (news:List Int) {a b c:Nat} (h1:a<=b) (h2:b<=c):Dg news a c=Dg news a b+Dg news b c:=by
 unfold Dg
 induction news with
 | nil=>rfl
 | cons x r ih =>
  simp only[List.filter_cons]
  by_cases g1:(a:Int)<=x
  ·by_cases g2:x<(b:Int)
   ·have e1:¬ (b:Int)<=x:=by omega
    have e2:x<(c:Int):=by omega
    simp only[g1,g2,e1,e2,decide_true,decide_false,Bool.and_self,Bool.false_and,if_true,Bool.false_eq_true,if_false,List.length_cons];omega
   ·have e1:(b:Int)<=x:=by omega
    by_cases g3:x<(c:Int)
    ·simp only[g1,g2,e1,g3,decide_true,decide_false,Bool.and_self,Bool.and_false,if_true,Bool.false_eq_true,if_false,List.length_cons]
     omega
    ·simp only[g1,g2,e1,g3,decide_true,decide_false,Bool.and_false,Bool.false_eq_true,if_false]
     exact ih
  ·have e1:¬ (b:Int)<=x:=by omega
   simp only[g1,e1,decide_false,Bool.false_and,Bool.false_eq_true,if_false];exact ih
theorem PJ (news:List Int) (i:Nat):Dg news i (i+1)=uR news i:=by
 unfold Dg uR
 congr 1
 apply List.filter_congr
 intro x _
 by_cases h:x=(i:Int)
 ·subst h;simp;omega
 ·have:(x==(i:Int))=false:=by rw[beq_eq_false_iff_ne];exact h
  rw[this,Bool.and_eq_false_iff]
  by_cases g:(i:Int)<=x
  ·right;simp;omega
  ·left;simp;omega
theorem SG (news:List Int) (lo hi:Nat):Dg news lo hi<=news.length:=List.length_filter_le _ _
theorem PK (i:Int):∀ (l:List Int) (r:Nat),r+l.length<=9999->(uQ l r i).length<=11*uR l i
 | [],_,_=>by simp[uQ]
 | a::l,r,h=>by
  simp only[List.length_cons] at h;have h1:=PK i l (r+1) (by omega);have h2:=Jl r (by omega);unfold uR at h1 ⊢;simp only[uQ,List.length_append,List.filter_cons]
  by_cases e:a=i
  ·have:(a==i)=true:=by simp[e]
   rw[if_pos e,this];simp only[if_true,List.length_cons];omega
  ·have:(a==i)=false:=by rw[beq_eq_false_iff_ne];exact e
   rw[if_neg e,this];simp only[List.length_nil,Bool.false_eq_true,if_false];omega
theorem IU (k:Kw) (nm:List UInt8):∀ (l l':List (List UInt8)) (i B:Nat),l.length=l'.length->(l.map List.length).sum<=(l'.map List.length).sum+B->(bh k nm i l).length<=(bh k nm i l').length+B
 | [],[],_,_,_,_=>by simp[bh]
 | [],_::_,_,_,h,_=>by simp at h
 | _::_,[],_,_,h,_=>by simp at h
 | x::r,y::s,i,B,h,hb=>by
  simp only[List.length_cons,Nat.add_right_cancel_iff] at h
  have key:∀ (a b:List (List UInt8)) (j:Nat),a.length=b.length->(bh k nm j a).length+(b.map List.length).sum=(bh k nm j b).length+(a.map List.length).sum:=by
   intro a
   induction a with
   | nil=>intro b j hl;cases b with | nil=>rfl | cons _ _=>simp at hl
   | cons u v ih =>
    intro b j hl
    cases b with
    | nil=>simp at hl
    | cons w z =>
     have:=ih z (j+1) (by simpa using hl);simp only[bh,List.map_cons,List.sum_cons,List.length_append,bF];simp only[List.length_cons] at *;omega
  have:=key (x::r) (y::s) i (by simp[h]);omega
mutual
theorem PL {regs news:List Int} (hr:∀ i,jW regs i<=9999) (hn:news.length<=150) {ns:List NR} (H:QI regs ns):∀ (t:PT) (b:Nat),gN ns t b->dC t->(t.Ap regs news b).length<=t.lO.length+6*t.bz+12*Dg news b (b+t.cnt-1)
 | .num _ _,_,_,_=>by simp only[PT.Ap,PT.lO];omega
 | .name _ _,_,_,_=>by simp only[PT.Ap,PT.lO];omega
 | .node p k nm rg kids,b,hs,hw=>by
  cases hw with
  | node hk hw =>
  simp only[gN] at hs;obtain⟨⟨n,ct,hf,_⟩,hks⟩:=hs;have h1:=vO hr hn H kids b hks hw
  have h2:(Qy regs (b+ax kids)).length<=6*(if k=.pair then 1 else 0):=by
   by_cases hp:k=.pair
   ·rw[if_pos hp];exact Cs regs _ (hr _)
   ·have:=(H _ _ ct).2 (λe=>hp ((O3 k).1 (hf ▸ e)))
    unfold Qy;rw[if_pos this];simp
  have h3:=IU k nm (iK regs news kids b) (jH kids) 0 _ (by rw[pS,DY]) h1;simp only[PT.Ap,PT.lO,if_neg hk,PT.bz,PT.cnt,List.length_cons,List.length_append,List.length_nil];rw[show b+(1+ax kids)-1=b+ax kids by omega];omega
theorem vO {regs news:List Int} (hr:∀ i,jW regs i<=9999) (hn:news.length<=150) {ns:List NR} (H:QI regs ns):∀ (ts:List PT) (b:Nat),gq ns ts b->(∀ x∈ts,dC x)->((iK regs news ts b).map List.length).sum<=((jH ts).map List.length).sum+(6*ic ts+12*Dg news b (b+ax ts))
 | [],b,_,_=>by simp[iK,jH]
 | t::r,b,hs,hw=>by
  simp only[gq] at hs;have h1:=PL hr hn H t b hs.1 (hw t (by simp));have h2:=vO hr hn H r (b+t.cnt) hs.2 (λx hx=>hw x (by simp[hx]));have hc:=cV t
  have Ec:(((b+t.cnt:Nat):Int)-1)=((b+t.cnt-1:Nat):Int):=by omega
  have h3:=PK ((b+t.cnt-1:Nat):Int) news 0 (by omega);have h4:=PJ news (b+t.cnt-1);rw[show b+t.cnt-1+1=b+t.cnt by omega] at h4;have h5:=zT news (a:=b) (b:=b+t.cnt-1) (c:=b+t.cnt) (by omega) (by omega);have h6:=zT news (a:=b) (b:=b+t.cnt) (c:=b+t.cnt+ax r) (by omega) (by omega);simp only[iK,jH,List.map_cons,List.sum_cons,ic,ax,List.length_append,Ec,XG,List.length_replicate];rw[show b+(t.cnt+ax r)=b+t.cnt+ax r by omega];omega
end
theorem PM {regs news:List Int} (hr:∀ i,jW regs i<=9999) (hn:news.length<=150) {ns:List NR} (H:QI regs ns) (t:PT) (hs:gN ns t 0) (hw:dC t):(t.wW regs news 0).length<=t.lO.length+6*t.bz+12*news.length:=by
 have h1:=vO hr hn H [t] 0 (by simp only[gq,and_true];exact hs) (by simpa using hw);have h2:=SG news 0 (0+ax [t]);simp only[iK,jH,List.map_cons,List.map_nil,List.sum_cons,List.sum_nil,ic,Nat.add_zero] at h1;unfold PT.wW;omega
theorem Xe {rg:List UInt8}:∀ {vs:List Nat} {x:KE} {t:Nat},KT vs x t->(x.pt rg).lO=(x.pt []).tidy:=by
 intro vs x t h
 induction h with
 | num h=>simp[KE.pt,PT.lO,PT.tidy,iP]
 | var _=>simp[KE.pt,PT.lO,PT.tidy]
 | aP _ _ _ _ ha hb=>simp[KE.pt,PT.lO,jH,PT.tidy,bT,dn,ha,hb]
 | di _ _ _ ha hb hc=>simp[KE.pt,PT.lO,jH,PT.tidy,bT,dn,ha,hb,hc]
 | loop _ _ _ _ ha hb hc=>simp[KE.pt,PT.lO,jH,PT.tidy,bT,dn,ha,hb,hc]
 | pair _ _ _ _ ha hb=>simp[KE.pt,PT.lO,jH,PT.tidy,bT,dn,ha,hb]
 | fst _ _ _ ha=>simp[KE.pt,PT.lO,jH,PT.tidy,bT,dn,ha]
 | snd _ _ _ ha=>simp[KE.pt,PT.lO,jH,PT.tidy,bT,dn,ha]
 | two hk _ _ ha hb=>rcases hk with rfl | rfl | rfl <;> simp[KE.pt,PT.lO,jH,PT.tidy,bT,dn,ha,hb]
theorem SH {x:KE} {t:Nat} (h:KT [] x t) (jN:x.bz<=75) (hlen:x.len<=1308) {e:PT} {ns:List NR} {n0:NR} (xk:e.np=x.pt []) (jQ:e.bQ) (hnn:dC e) (hN:X7 e ns n0) (hL:CV (fM e ns n0) (fN e ns n0) ns (oG e ns n0)) :
  ∃ e2 T',PE true (tokens (e.wW (fM e ns n0) (fN e ns n0) 0)) e2 []/\dF e2=(0,0)/\WT [] e2 (sS t)/\jE [] e2 T'/\(∀ f,ev f e2.era [] ⟨0,0,0⟩=ev f (x.pt []) [] ⟨0,0,0⟩)/\(e.wW (fM e ns n0) (fN e ns n0) 0).length<=9000/\e2.np=e.lay (fM e ns n0) (fN e ns n0) 0:=by
 have Py:e.bz<=75:=by rw[<- yP,xk,Hr _ h];exact jN
 have hfl:=Fw (n0:=n0) hN.na
 have kJ:(fN e ns n0).length<=75:=by unfold fN iB;rw[List.length_map,List.length_range];omega
 obtain⟨hb1,hb2⟩:=J9 e ns n0 (by omega);have ux:WT [] e (sS t):=iy e (by rw[xk];exact En h (by simp));have hok:e.ok false:=PH e (by rw[xk];exact NT (ae:=false) rfl h);have UC:=hN.na.G6;have ab5:=Wu hL.pr (show (fN e ns n0).length<=999 by omega) e 0 UC jQ hok;obtain⟨e2,hpe,he2⟩:=Cv _ ab5;rw[Ws] at he2;rw[O2 _ _ e 0 hnn] at hpe;have PN:WT [] e2 (sS t):=iy e2 (by rw[he2];exact O4 ux hnn 0);obtain⟨hwr,_⟩:=Si hL ux hnn jQ [] [] 0 [] ns [] hN.na (by simp) rfl (λs U hs=>by simp[look] at hs);refine⟨e2,_,hpe,H7 PN ?_,PN,gX e2 (by rw[he2];exact hwr),λf=>?_,?_,he2⟩
 ·rw[<- yP,he2,Sb];omega
 ·rw[<- nJ,IL,he2]
  unfold PT.lay;rw[j8,kx f _ _ e 0 [] _ hnn jQ,<- nJ,xk]
 ·have h1:=PM hb1 (show (fN e ns n0).length<=150 by omega) hL.pr e UC hnn
  have h2:e.lO.length<=1308+75*1:=by
   rw[<- PD,xk,Xe h];have:=CD (rg:=[]) h;simp at this;omega
  omega
mutual
def bN:List Int->PT->Prop
 | _,.num _ _=>True
 | _,.name _ _=>True
 | rs,.node _ k _ rg kids=>(k=.pair->ak rg∈rs)/\cz (if k=.new then ak rg::rs else rs) kids
def cz:List Int->List PT->Prop
 | _,[]=>True
 | rs,t::r=>bN rs t/\cz rs r
end
def Rt (m m':MM):Prop:=cg m m'/\m'.regs[0]?=m.regs[0]?
theorem Rt.trans {a b c:MM} (h:Rt a b) (g:Rt b c):Rt a c:=⟨h.1.trans g.1,g.2.trans h.2⟩
theorem BN {l:List MR} {k:Int}:∀ (n i:Nat) (g:MR),1<=i->i<=n->l[i]?=some g->g.num=k->1<=jq l k n
 | 0,i,g,h1,h2,_,_=>by omega
 | n+1,i,g,h1,h2,hg,hk=>by
  simp only[jq]
  split
  ·omega
  ·rename_i hne
   refine BN n i g h1 ?_ hg hk
   rcases Nat.lt_succ_iff_lt_or_eq.1 (Nat.lt_succ_of_le h2) with h | h
   ·omega
   ·exfalso;apply hne;rw[<- h,hg];simp[hk]
theorem kH (i:Int) (t:PT):∀ (l:List Int) (r:Nat) (rs:List Int),(∀ rs':List Int,(∀ x∈rs,x∈rs')->(∀ j,l[j]?=some i->((r+j:Nat):Int)∈rs')->bN rs' t)->bN rs (fL l r i t)
 | [],r,rs,h=>h rs (λ_ hx=>hx) (λj hj=>by simp at hj)
 | a::l,r,rs,h=>by
  simp only[fL]
  split
  ·rename_i e
   simp only[bN,if_true,cz,and_true];refine⟨(λh=>by cases h),kH i t l (r+1) _ (λrs' h1 h2=>h rs' (λx hx=>h1 x (by simp[hx])) (λj hj=>?_))⟩
   cases j with
   | zero=>exact h1 _ (by rw[qB];simp)
   | succ j=>rw[show r+(j+1)=r+1+j by omega];exact h2 j (by simpa using hj)
  ·rename_i e
   refine kH i t l (r+1) rs (λrs' h1 h2=>h rs' h1 (λj hj=>?_))
   cases j with
   | zero=>simp only[List.getElem?_cons_zero,Option.some.injEq] at hj;exact absurd hj e
   | succ j=>rw[show r+(j+1)=r+1+j by omega];exact h2 j (by simpa using hj)
def QIn (regs news:List Int) (ns:List NR) (rs:List Int) (lo hi:Nat):Prop:=∀ (i:Nat) (n:NR),lo<=i->i<hi->ns[i]?=some n->n.form=4->jW regs i∈rs\/∃ (j:Nat) (m:NR),lo<=j/\j<hi/\ns[j]?=some m/\news[(jW regs i).toNat]?=some (j:Int)/\m.at_<=n.at_/\n.aL<=m.aL
mutual
theorem bG.zV:∀ {t:PT} {ms:List NR} {lo hi:Nat},bG t ms lo hi->∀ n∈ms,lo<=n.at_/\n.at_<n.aL/\n.aL<=hi
 | .num p _,ms,lo,hi,h,n,hn=>by simp only[bG] at h;obtain⟨m,rfl,h1,h2,h3,h4⟩:=h;simp only[List.mem_singleton] at hn;subst hn;omega
 | .name p _,ms,lo,hi,h,n,hn=>by simp only[bG] at h;obtain⟨m,rfl,h1,h2,h3,h4⟩:=h;simp only[List.mem_singleton] at hn;subst hn;omega
 | .node p _ _ _ kids,ms,lo,hi,h,n,hn=>by
  simp only[bG] at h;obtain⟨ks,m,rfl,h1,h2,h3,h4,h5⟩:=h
  rcases List.mem_append.1 hn with hn | hn
  ·have:=ba.zV h3 n hn;omega
  ·simp only[List.mem_singleton] at hn;subst hn;omega
theorem ba.zV:∀ {ts:List PT} {ms:List NR} {lo hi:Nat},ba ts ms lo hi->∀ n∈ms,lo<=n.at_/\n.at_<n.aL/\n.aL<=hi
 | [],ms,lo,hi,h,n,hn=>by simp only[ba] at h;rw[h.1] at hn;simp at hn
 | t::r,ms,lo,hi,h,n,hn=>by
  simp only[ba] at h;obtain⟨a,c,mid,rfl,h1,h2⟩:=h;have hl:=h1.lt;have hr:=h2.le
  rcases List.mem_append.1 hn with hn | hn
  ·have:=bG.zV h1 n hn;omega
  ·have:=ba.zV h2 n hn;omega
end
mutual
theorem bG.len:∀ {t:PT} {ms:List NR} {lo hi:Nat},bG t ms lo hi->ms.length=t.cnt
 | .num p _,ms,lo,hi,h=>by simp only[bG] at h;obtain⟨m,rfl,_⟩:=h;rfl
 | .name p _,ms,lo,hi,h=>by simp only[bG] at h;obtain⟨m,rfl,_⟩:=h;rfl
 | .node p _ _ _ kids,ms,lo,hi,h=>by
  simp only[bG] at h;obtain⟨ks,m,rfl,h1,h2,h3,h4,h5⟩:=h;simp only[PT.cnt,List.length_append,List.length_singleton,ba.len h3];omega
theorem ba.len:∀ {ts:List PT} {ms:List NR} {lo hi:Nat},ba ts ms lo hi->ms.length=ax ts
 | [],ms,lo,hi,h=>by simp only[ba] at h;rw[h.1];rfl
 | t::r,ms,lo,hi,h=>by
  simp only[ba] at h;obtain⟨a,c,mid,rfl,h1,h2⟩:=h;simp only[ax,List.length_append,bG.len h1,ba.len h2]
end
def Mc (ns ms:List NR) (b:Nat):Prop:=∀ (k:Nat) (n:NR),ms[k]?=some n->ns[b+k]?=some n
theorem Mc.mem {ns ms:List NR} {b j:Nat} {m:NR} (h:Mc ns ms b) (h1:b<=j) (h2:j<b+ms.length) (hm:ns[j]?=some m):m∈ms:=by
 have hk:j-b<ms.length:=by omega
 have:=h (j-b) ms[j-b] (List.getElem?_eq_getElem hk);rw[show b+(j-b)=j by omega,hm] at this;simp only[Option.some.injEq] at this;rw[this];exact List.getElem_mem hk
theorem Mc.left {ns a c:List NR} {b:Nat} (h:Mc ns (a++c) b):Mc ns a b:=λk n hn=>h k n (by rw[List.getElem?_append_left (List.getElem?_eq_some_iff.1 hn).1];exact hn)
theorem Mc.right {ns a c:List NR} {b:Nat} (h:Mc ns (a++c) b):Mc ns c (b+a.length):=λk n hn=>by
 have:=h (a.length+k) n (by rw[List.getElem?_append_right (by omega),Nat.add_sub_cancel_left];exact hn);rw[Nat.add_assoc];exact this
theorem BO {regs:List Int} {i:Nat} (h:0<=jW regs i):ak (QH regs i)=jW regs i:=by
 unfold QH;rw[if_neg (by omega),qB];omega
mutual
theorem zW {regs news:List Int} {ns:List NR} (H:QI regs ns):∀ (t:PT) (ms:List NR) (lo hi b:Nat) (rs:List Int),bG t ms lo hi->Mc ns ms b->gN ns t b->dC t->QIn regs news ns rs b (b+t.cnt)->bN rs (t.lay regs news b)
 | .num _ _,ms,lo,hi,b,rs,_,_,_,_,_=>kH _ _ news 0 rs (λ_ _ _=>by simp[PT.gi,bN])
 | .name _ _,ms,lo,hi,b,rs,_,_,_,_,_=>kH _ _ news 0 rs (λ_ _ _=>by simp[PT.gi,bN])
 | .node p k nm rg kids,ms,lo,hi,b,rs,hp,he,hs,hn,hq=>by
  cases hn with
  | node hk hn =>
  simp only[bG] at hp;obtain⟨ks,n0,rfl,h1,h2,h3,h4,h5⟩:=hp;simp only[gN] at hs;obtain⟨⟨n,ct,hf,_⟩,hks⟩:=hs;have hkl:=h3.len
  have hn0:ns[b+ax kids]?=some n0:=by
   have:=he ks.length n0 (by rw[List.getElem?_append_right (Nat.le_refl _),Nat.sub_self];rfl)
   rwa [hkl] at this
  have hnn:n=n0:=by rw[ct] at hn0;exact Option.some.inj hn0
  subst hnn;have hek:Mc ns ks b:=he.left;simp only[PT.cnt] at hq;unfold PT.lay;refine kH _ _ news 0 rs (λrs' g1 g2=>?_);simp only[PT.cnt,cW] at g2;simp only[PT.gi,bN,if_neg hk];refine⟨λaaD=>?_,wz H kids ks _ _ b rs' h3 hek hks hn (λi m i1 i2 hm h4m=>?_)⟩
  ·have h4:n.form=4:=by rw[hf];exact (O3 k).2 aaD
   have hr:=(H _ _ ct).1 h4;rw[BO hr.1]
   rcases hq (b+ax kids) n (by omega) (by omega) ct h4 with hq | ⟨j,m,j1,j2,hj,UD,ha,hb⟩
   ·exact g1 _ hq
   ·by_cases Gf:j=b+ax kids
    ·have:=g2 (jW regs (b+ax kids)).toNat (by rw[UD,Gf])
     rw[Nat.zero_add,Int.toNat_of_nonneg hr.1] at this;exact this
    ·exfalso
     have:=h3.zV m (hek.mem j1 (by omega) hj);omega
  ·rcases hq i m i1 (by omega) hm h4m with hq | ⟨j,m',j1,j2,hj,UD,ha,hb⟩
   ·exact Or.inl (g1 _ hq)
   ·by_cases Gf:j=b+ax kids
    ·left
     have hr:=(H _ _ hm).1 h4m;have:=g2 (jW regs i).toNat (by rw[UD,Gf]);rw[Nat.zero_add,Int.toNat_of_nonneg hr.1] at this;exact this
    ·exact Or.inr ⟨j,m',j1,by omega,hj,UD,ha,hb⟩
theorem wz {regs news:List Int} {ns:List NR} (H:QI regs ns):∀ (ts:List PT) (ms:List NR) (lo hi b:Nat) (rs:List Int),ba ts ms lo hi->Mc ns ms b->gq ns ts b->(∀ x∈ts,dC x)->QIn regs news ns rs b (b+ax ts)->cz rs (iz regs news ts b)
 | [],ms,lo,hi,b,rs,_,_,_,_,_=>by simp[iz,cz]
 | t::r,ms,lo,hi,b,rs,hp,he,hs,hn,hq=>by
  simp only[ba] at hp;obtain⟨a,c,mid,rfl,h1,h2⟩:=hp;simp only[gq] at hs;simp only[ax] at hq;have la:=h1.len;have lc:=h2.len;have hr:=he.right;rw[la] at hr;simp only[iz,cz];refine⟨zW H t a lo mid b rs h1 he.left hs.1 (hn t (by simp)) (λi n i1 i2 hi h4=>?_),wz H r c mid hi (b+t.cnt) rs h2 hr hs.2 (λx hx=>hn x (by simp[hx])) (λi n i1 i2 hi h4=>?_)⟩
  ·rcases hq i n i1 (by omega) hi h4 with hq | ⟨j,m,j1,j2,hj,UD,ha,hb⟩
   ·exact Or.inl hq
   ·by_cases hlt:j<b+t.cnt
    ·exact Or.inr ⟨j,m,j1,hlt,hj,UD,ha,hb⟩
    ·exfalso
     have q1:=h1.zV n (he.left.mem i1 (by omega) hi);have q2:=h2.zV m (hr.mem (by omega) (by omega) hj);omega
  ·rcases hq i n (by omega) (by omega) hi h4 with hq | ⟨j,m,j1,j2,hj,UD,ha,hb⟩
   ·exact Or.inl hq
   ·by_cases hlt:j<b+t.cnt
    ·exfalso
     have q1:=h1.zV m (he.left.mem j1 (by omega) hj);have q2:=h2.zV n (hr.mem i1 (by omega) hi);omega
    ·exact Or.inr ⟨j,m,by omega,by omega,hj,UD,ha,hb⟩
end
theorem uF (T:List Ty) (rg:Nat):∀ (l:List NR) (k a b:Nat),(dA T rg l k a b).1<=a/\b<=(dA T rg l k a b).2/\∀ (i:Nat) (n:NR),l[i]?=some n->(ai T ((k+i:Nat):Int)).has rg=true->(dA T rg l k a b).1<=n.at_/\n.aL<=(dA T rg l k a b).2
 | [],k,a,b=>⟨Nat.le_refl _,Nat.le_refl _,λi n h=>by simp at h⟩
 | m::r,k,a,b=>by
  simp only[dA]
  split
  ·rename_i hm
   obtain⟨h1,h2,h3⟩:=uF T rg r (k+1) (if m.at_<a then m.at_ else a) (if b<m.aL then m.aL else b)
   have e1:(if m.at_<a then m.at_ else a)<=a/\(if m.at_<a then m.at_ else a)<=m.at_:=by split <;> omega
   have e2:b<=(if b<m.aL then m.aL else b)/\m.aL<=(if b<m.aL then m.aL else b):=by split <;> omega
   refine⟨by omega,by omega,λi n hn hh=>?_⟩
   cases i with
   | zero=>simp only[List.getElem?_cons_zero,Option.some.injEq] at hn;subst hn;omega
   | succ i=>exact h3 i n (by simpa using hn) (by rw[show k+1+i=k+(i+1) by omega];exact hh)
  ·rename_i hm
   obtain⟨h1,h2,h3⟩:=uF T rg r (k+1) a b;refine⟨h1,h2,λi n hn hh=>?_⟩
   cases i with
   | zero=>exact absurd hh (by simpa using hm)
   | succ i=>exact h3 i n (by simpa using hn) (by rw[show k+1+i=k+(i+1) by omega];exact hh)
mutual
def PT.tG:PT->List Int
 | .num _ _=>[]
 | .name _ _=>[]
 | .node _ k _ rg kids=>(if k=.new then [ak rg] else [])++tq kids
def tq:List PT->List Int
 | []=>[]
 | t::r=>t.tG++tq r
end
def f12 (n:NR):Bool:=n.form==12
theorem PO (k:Kw):aZ k=12↔k=.new:=by cases k <;> decide
mutual
theorem Kf (NS:List NR):∀ (t:PT) (scope:Sc) (base:Nat) (ns:List NR),NA scope t base ns->(∀ j,j<ns.length->NS[base+j]?=ns[j]?)->((bw NS (opn t base)).filter f12).map (·.region)=t.tG
 | .num p s,scope,base,ns,h,hN=>by
  simp only[NA] at h;subst h;have:=hN 0 (by simp);simp only[Nat.add_zero] at this;simp[bw,opn,this,PT.tG,f12]
 | .name p s,scope,base,ns,h,hN=>by
  simp only[NA] at h;subst h;have:=hN 0 (by simp);simp only[Nat.add_zero] at this;simp[bw,opn,this,PT.tG,f12]
 | .node p k nm rg kids,scope,base,ns,h,hN=>by
  simp only[NA] at h;obtain⟨ks,aL,h1,rfl⟩:=h;have hl:=h1.len;have hk:=FE NS kids scope nm (bU k) base ks h1 (λj hj=>by rw[hN j (by simp;omega),List.getElem?_append_left hj]);have hs:=hN ks.length (by simp);rw[hl,<- hl,List.getElem?_append_right (Nat.le_refl _)] at hs;simp only[Nat.sub_self,List.getElem?_cons_zero] at hs;rw[hl] at hs;simp only[opn,PT.tG];unfold bw at hk ⊢;rw[List.map_cons,Int.toNat_natCast,hs,Option.getD_some,List.filter_cons]
  by_cases hkp:k=.new
  ·have:aZ k=12:=(PO k).2 hkp
   simp only[f12,this,if_pos hkp] at hk ⊢;simp only[beq_self_eq_true,if_true,List.map_cons,hk];rfl
  ·have:¬ aZ k=12:=λe=>hkp ((PO k).1 e)
   have h12:(aZ k==12)=false:=by rw[beq_eq_false_iff_ne];exact this
   simp only[f12,h12,if_neg hkp] at hk ⊢;simp only[Bool.false_eq_true,if_false,hk];rfl
theorem FE (NS:List NR):∀ (ts:List PT) (scope:Sc) (nm:List UInt8) (bs:List Bool) (base:Nat) (ns:List NR),cK scope nm ts bs base ns->(∀ j,j<ns.length->NS[base+j]?=ns[j]?)->((bw NS (jS ts base)).filter f12).map (·.region)=tq ts
 | [],_,_,_,_,_,_,_=>by simp[bw,jS,tq]
 | _::_,_,_,[],_,_,h,_=>by simp[cK] at h
 | t::r,scope,nm,b::bs,base,ns,h,hN=>by
  simp only[cK] at h;obtain⟨a,c,h1,h2,rfl⟩:=h;have hl:=h1.len;have e1:=Kf NS t _ base a h1 (λj hj=>by rw[hN j (by simp;omega),List.getElem?_append_left hj])
  have e2:=FE NS r scope nm bs (base+t.cnt) c h2 (λj hj=>by
   have:=hN (t.cnt+j) (by simp;omega);rw[<- Nat.add_assoc] at this;rw[this,List.getElem?_append_right (by omega)]
   congr 1;omega)
  unfold bw at e1 e2 ⊢;simp only[jS,tq,List.map_append,List.filter_append,e1,e2]
end
def InR (N:List Int) (lo hi:Nat) (l:List Int):Prop:=∀ x∈l,∃ (r i:Nat),x=(r:Int)/\N[r]?=some (i:Int)/\lo<=i/\i<hi
theorem InR.mono {N:List Int} {a b c d:Nat} {l:List Int} (h:InR N a b l) (h1:c<=a) (h2:b<=d):InR N c d l:=λx hx=>by
 obtain⟨r,i,e1,e2,e3,e4⟩:=h x hx;exact⟨r,i,e1,e2,by omega,by omega⟩
open Go.RowKit
def FF (S:ByteArray) (a b c d:Int):Value:=.agg #[.string S,.int .i64 a,.int .i64 b,.int .i64 c,.int .i64 d]
structure PQ (m:MM):Prop where
 r:m.regs.length=1
 c:∀ c∈m.cells,c.home=0
theorem PQ.name {m:MM} (h:PQ m) (i:Int) (v:MV):PQ (m.name i v):=by
 unfold MM.name;split
 ·exact⟨h.r,h.c⟩
 ·exact h
theorem BP (T:List Ty) (rg a b:Nat):∀ (l:List NR) (k:Nat),ew T rg a b l k=-1\/∃ (j:Nat) (m:NR),l[j]?=some m/\ew T rg a b l k=((k+j:Nat):Int)/\m.at_<=a/\b<=m.aL
 | [],k=>Or.inl rfl
 | x::r,k=>by
  simp only[ew]
  split
  ·rename_i hc
   exact Or.inr ⟨0,x,rfl,rfl,hc.1,hc.2.1⟩
  ·rcases BP T rg a b r (k+1) with h | ⟨j,m,e1,e2,e3⟩
   ·exact Or.inl h
   ·exact Or.inr ⟨j+1,m,by simpa using e1,by rw[e2,show k+1+j=k+(j+1) by omega],e3⟩
def noN (N:List Int):List Int:=((List.range N.length).filter (λr=>N[r]?==some (-1))).map (λr:Nat=>(r:Int))
theorem Kg (N:List Int) (x:Int):x∈noN N↔∃ r:Nat,x=(r:Int)/\N[r]?=some (-1):=by
 unfold noN;rw[List.mem_map]
 constructor
 ·rintro⟨r,h,rfl⟩
  rw[List.mem_filter] at h;exact⟨r,rfl,by simpa using h.2⟩
 ·rintro⟨r,rfl,h⟩
  exact⟨r,by rw[List.mem_filter,List.mem_range];exact⟨(List.getElem?_eq_some_iff.1 h).1,by simpa using h⟩,rfl⟩
theorem Dh {e:PT} {ns:List NR} {n0:NR} (hnn:dC e) (hN:X7 e ns n0) (hL:CV (fM e ns n0) (fN e ns n0) ns (oG e ns n0)):bN (noN (fN e ns n0)) (e.lay (fM e ns n0) (fN e ns n0) 0):=by
 obtain⟨lo,hi,hp⟩:=hN.pos;have hlen:=hN.na.len;refine zW hL.pr e ns lo hi 0 _ hp (λk n hn=>by rw[Nat.zero_add];exact hn) hN.na.G6 hnn (λi n i1 i2 hn h4=>?_);have hr:=(hL.pr i n hn).1 h4;obtain⟨r,pz⟩:∃ r:Nat,jW (fM e ns n0) i=(r:Int):=⟨(jW (fM e ns n0) i).toNat,by omega⟩;have hty:=hL.ty i n hn
 have ab6:(ai (oG e ns n0) ((0+i:Nat):Int)).has r=true:=by
  rw[Nat.zero_add,hty];unfold cH;have:(fo n (jW (fM e ns n0) i)).form=4:=h4;simp only[this];simp only[Nat.reduceEqDiff,if_false,if_true,fo,pz,Int.toNat_natCast];rw[TC];simp
 have hrl:r<(jx e ns n0).length:=by
  have h1:jW (fM e ns n0) i=gW (jx e ns n0) (aX (mf ns n0) n.at_):=by unfold fM;rw[rA _ _ ns i n hn,if_pos h4]
  unfold gW at h1
  split at h1
  ·rename_i x hx
   have:=(List.findIdx?_eq_some_iff_getElem.1 hx).1;omega
  ·omega
 obtain⟨s1,s2,s3⟩:=uF (oG e ns n0) r ns 0 n0.aL n0.at_;obtain⟨sa,sb⟩:=s3 i n hn ab6
 have hnr:(fN e ns n0)[r]?=some (ew (oG e ns n0) r (dA (oG e ns n0) r ns 0 n0.aL n0.at_).1 (dA (oG e ns n0) r ns 0 n0.aL n0.at_).2 ns 0):=by
  unfold fN iB;rw[List.getElem?_map,List.getElem?_range hrl];rfl
 rcases BP (oG e ns n0) r (dA (oG e ns n0) r ns 0 n0.aL n0.at_).1 (dA (oG e ns n0) r ns 0 n0.aL n0.at_).2 ns 0 with hm | ⟨j,m,e1,e2,e3,e4⟩
 ·left
  rw[hm] at hnr;exact (Kg _ _).2 ⟨r,pz,hnr⟩
 ·right
  refine⟨j,m,Nat.zero_le _,by have:=(List.getElem?_eq_some_iff.1 e1).1;omega,e1,?_,by omega,by omega⟩;rw[pz,Int.toNat_natCast,hnr,e2,Nat.zero_add]
theorem FG {e:PT} {ns:List NR} (h:NA [] e 0 ns):∀ n,n∈bw ns (opn e 0)↔n∈ns:=by
 have hl:=h.len;have ho:=xT h;intro n;unfold bw;rw[List.mem_map]
 constructor
 ·rintro⟨x,hx,rfl⟩
  obtain⟨h1,h2⟩:=ho.2 x hx;rw[List.getElem?_eq_getElem h2];exact List.getElem_mem h2
 ·intro hn
  obtain⟨i,hi,he⟩:=List.getElem_of_mem hn;exact⟨(i:Int),C8 e 0 i (Nat.zero_le _) (by omega),by rw[Int.toNat_natCast,List.getElem?_eq_getElem hi,he];rfl⟩
structure MI (m:MM):Prop where
 live:m.live=kO m.regs
 most:m.live<=m.most
 some:0<m.cells.length->0<m.most
theorem MI.of {m m':MM} (h:MI m) (h1:m'.regs=m.regs) (h2:m'.live=m.live) (h3:m'.most=m.most) (h4:m'.cells=m.cells):MI m':=⟨by rw[h1,h2];exact h.live,by rw[h2,h3];exact h.most,by rw[h3,h4];exact h.some⟩
theorem MI.name {m:MM} (h:MI m) (i:Int) (v:MV):MI (m.name i v):=by unfold MM.name;split <;> first | exact h | exact h.of rfl rfl rfl rfl
theorem MI.cell {m:MM} (h:MI m) (k:Int) (a b:MV):MI (m.bb k a b).2:=by
 unfold MM.bb
 cases e:m.regs[m.home k]? with
 | none=>exact h
 | some r =>
  have hs:=qg m.regs (m.home k) r { r with cells:=r.cells+1 } e;have hl:=h.live;simp only at hs;refine⟨by simp only;omega,?_,λ_=>?_⟩
  ·simp only;split <;> omega
  ·simp only;split <;> omega
inductive ni (R:Nat->Int->Prop):PT->PT->Prop
 | num {p q:Nat} {s s':List UInt8} (h:ak s=ak s'):ni R (.num p s) (.num q s')
 | name {p q:Nat} {s:List UInt8}:ni R (.name p s) (.name q s)
 | aP {p q:Nat} {nm rg gU:List UInt8} {a b a' b':PT} (ha:ni R a a') (hb:ni R b b'):ni R (.node p .aP nm rg [a,b]) (.node q .aP nm gU [a',b'])
 | pair {p q:Nat} {nm nk rg gU:List UInt8} {a b a' b':PT} (hr:R p (ak gU)) (ha:ni R a a') (hb:ni R b b'):ni R (.node p .pair nm rg [a,b]) (.node q .pair nk gU [a',b'])
 | fst {p q:Nat} {nm nk rg gU:List UInt8} {a a':PT} (ha:ni R a a'):ni R (.node p .fst nm rg [a]) (.node q .fst nk gU [a'])
 | snd {p q:Nat} {nm nk rg gU:List UInt8} {a a':PT} (ha:ni R a a'):ni R (.node p .snd nm rg [a]) (.node q .snd nk gU [a'])
 | di {p q:Nat} {nm nk rg gU:List UInt8} {a b c a' b' c':PT} (ha:ni R a a') (hb:ni R b b') (hc:ni R c c'):ni R (.node p .di nm rg [a,b,c]) (.node q .di nk gU [a',b',c'])
 | two {p q:Nat} {k:Kw} {nm nk rg gU:List UInt8} {a b a' b':PT} (hk:k=.add\/k=.sub\/k=.less) (ha:ni R a a') (hb:ni R b b'):ni R (.node p k nm rg [a,b]) (.node q k nk gU [a',b'])
 | loop {p q:Nat} {nm rg gU:List UInt8} {a b c a' b' c':PT} (ha:ni R a a') (hb:ni R b b') (hc:ni R c c'):ni R (.node p .loop nm rg [a,b,c]) (.node q .loop nm gU [a',b',c'])
 | new {q:Nat} {nm rg:List UInt8} {e a':PT} (ha:ni R e a'):ni R e (.node q .new nm rg [a'])
abbrev Pl (ρ:Nat->Nat):PT->PT->Prop:=ni (λp v=>v=(ρ p:Int))
mutual
def PT.pc:PT->Nat
 | .num _ _=>1
 | .name _ _=>1
 | .node _ k _ _ kids=>(if k=.new then 0 else 1)+Gz kids
def Gz:List PT->Nat
 | []=>0
 | t::r=>t.pc+Gz r
end
mutual
def PT.qF:PT->Nat->List (Int × Nat × Nat)
 | .num _ _,_=>[]
 | .name _ _,_=>[]
 | .node _ k _ rg kids,b=>(if k=.new then [(ak rg,b,Gz kids)] else [])++jz kids b
def jz:List PT->Nat->List (Int × Nat × Nat)
 | [],_=>[]
 | t::r,b=>t.qF b++jz r (b+t.pc)
end
mutual
theorem Di:∀ (t:PT) (b:Nat),(t.qF b).map (·.1)=t.tG
 | .num _ _,_=>rfl
 | .name _ _,_=>rfl
 | .node _ k _ rg kids,b=>by
  simp only[PT.qF,PT.tG,List.map_append,FH kids b]
  split <;> rfl
theorem FH:∀ (l:List PT) (b:Nat),(jz l b).map (·.1)=tq l
 | [],_=>rfl
 | t::r,b=>by simp only[jz,tq,List.map_append,Di t b,FH r]
end
theorem ni.pc {R:Nat->Int->Prop} {e q:PT} (h:ni R e q):q.pc=e.cnt:=by
 induction h with
 | num _=>rfl
 | name=>rfl
 | aP _ _ aF bu=>simp[PT.pc,Gz,PT.cnt,ax,aF,bu]
 | pair _ _ _ aF bu=>simp[PT.pc,Gz,PT.cnt,ax,aF,bu]
 | fst _ aF=>simp[PT.pc,Gz,PT.cnt,ax,aF]
 | snd _ aF=>simp[PT.pc,Gz,PT.cnt,ax,aF]
 | di _ _ _ aF bu fe=>simp[PT.pc,Gz,PT.cnt,ax,aF,bu,fe]
 | two hk _ _ aF bu=>rcases hk with rfl | rfl | rfl <;> simp[PT.pc,Gz,PT.cnt,ax,aF,bu]
 | loop _ _ _ aF bu fe=>simp[PT.pc,Gz,PT.cnt,ax,aF,bu,fe]
 | new _ aF=>simp[PT.pc,Gz,aF]
def SI (ρ:Nat->Nat) (T1:List Ty) (GR:aV) (sc:Sc):Prop:=∀ s V,look GR s=some V->∃ i:Nat,cE sc s=(i:Int)/\V=cC ρ (ai T1 i)
theorem SI.snoc {ρ:Nat->Nat} {T1:List Ty} {GR:aV} {sc:Sc} {nm:List UInt8} {V:Ty} {z:Int} (h:SI ρ T1 GR sc) (hz:0<=z) (hv:V=cC ρ (ai T1 z)):SI ρ T1 (GR++[(nm,V)]) (sc++[(nm,z)]):=λs U hs=>by
 rw[fw] at hs;rw[iT]
 by_cases e:nm=s
 ·rw[if_pos e] at hs ⊢
  simp only[Option.some.injEq] at hs;subst hs;exact⟨z.toNat,by omega,by rw[Int.toNat_of_nonneg hz];exact hv⟩
 ·rw[if_neg e] at hs ⊢
  exact h s U hs
structure GA (ρ:Nat->Nat) (T1:List Ty) (ns:List NR) (rs:List Int) (L:List (Int × Nat × Nat)) (lo hi:Nat):Prop where
 one:∀ (i:Nat) n,lo<=i->i<hi->ns[i]?=some n->n.form=7\/n.form=11->cC ρ (ai T1 n.p1)=cC ρ (ai T1 n.p2)
 SJ:∀ (i:Nat) (k:Int),lo<=i->i<hi->(cC ρ (ai T1 i)).has k=true->k ∉ rs->∃ b c,(k,b,c)∈L/\b<=i/\i<b+c
 nw:∀ (k:Int) (b c:Nat),(k,b,c)∈L->lo<=b/\1<=c/\b+c<=hi/\(cC ρ (ai T1 ((b+c-1:Nat):Int))).has k=false
theorem GA.join {ρ:Nat->Nat} {T1:List Ty} {ns:List NR} {rs:List Int} {L L':List (Int × Nat × Nat)} {a b c:Nat} (h:GA ρ T1 ns rs L a b) (g:GA ρ T1 ns rs L' b c) (hab:a<=b/\b<=c):GA ρ T1 ns rs (L++L') a c:=by
 refine⟨λi n h1 h2=>?_,λi k h1 h2 hh hk=>?_,λk x y hm=>?_⟩
 ·by_cases e:i<b
  ·exact h.one i n h1 e
  ·exact g.one i n (by omega) h2
 ·by_cases e:i<b
  ·obtain⟨x,y,m,r⟩:=h.SJ i k h1 e hh hk
   exact⟨x,y,List.mem_append_left _ m,r⟩
  ·obtain⟨x,y,m,r⟩:=g.SJ i k (by omega) h2 hh hk
   exact⟨x,y,List.mem_append_right _ m,r⟩
 ·rcases List.mem_append.1 hm with hm | hm
  ·obtain⟨m1,m2,m3,m4⟩:=h.nw k x y hm
   exact⟨m1,m2,by omega,m4⟩
  ·obtain⟨m1,m2,m3,m4⟩:=g.nw k x y hm
   exact⟨by omega,m2,m3,m4⟩
theorem GA.root {ρ:Nat->Nat} {T1:List Ty} {ns:List NR} {rs:List Int} {j:Nat} {n:NR} (hn:ns[j]?=some n) (h1:n.form=7\/n.form=11->cC ρ (ai T1 n.p1)=cC ρ (ai T1 n.p2)) (h2:∀ k,(cC ρ (ai T1 j)).has k=true->k∈rs):GA ρ T1 ns rs [] j (j+1):=by
 refine⟨λi m a b hm=>?_,λi k a b hh hk=>?_,λk b c hm=>by simp at hm⟩
 ·have:i=j:=by omega
  subst this;rw[hn] at hm;simp only[Option.some.injEq] at hm;subst hm;exact h1
 ·have:i=j:=by omega
  subst this;exact absurd (h2 k hh) hk
def SK (rs:List Int) (GR:aV):Prop:=∀ s V,look GR s=some V->∀ k,V.has k=true->k∈rs
theorem SK.snoc {rs:List Int} {GR:aV} {nm:List UInt8} {V:Ty} (h:SK rs GR) (hv:∀ k,V.has k=true->k∈rs):SK rs (GR++[(nm,V)]):=λs U hs=>by
 rw[fw] at hs
 by_cases e:nm=s
 ·rw[if_pos e] at hs
  simp only[Option.some.injEq] at hs;subst hs;exact hv
 ·rw[if_neg e] at hs
  exact h s U hs
theorem Dj {r:Nat} {A B:Ty} {k:Int}:(Ty.p r A B).has k=true↔(r:Int)=k\/A.has k=true\/B.has k=true:=by
 unfold Ty.has;simp only[Ty.u7,List.any_cons,List.any_append,Bool.or_eq_true,beq_iff_eq]
theorem IV {k:Int}:Ty.n.has k=true↔False:=by simp[Ty.has,Ty.u7]
theorem PR {ρ:Nat->Nat} {ns:List NR} {T1:List Ty} (H:∀ i n,ns[i]?=some n->ai T1 (i:Nat)=cH T1 (atR n)) {e q:PT} (h:Pl ρ e q):∀ {GR:aV} {V:Ty},jE GR q V->∀ (rs:List Int) (sc:Sc) (b:Nat) (pre ms post:List NR),NA sc e b ms->ns=pre++(ms++post)->pre.length=b->SI ρ T1 GR sc->SK rs GR->bN rs q ->
  V=cC ρ (ai T1 (((b+e.cnt:Nat):Int)-1))/\(∀ k,V.has k=true->k∈rs)/\GA ρ T1 ns rs (q.qF b) b (b+e.cnt):=by
 induction h with
 | @num p q s s' h =>
  intro GR V hw rs sc b pre ms post aO hns hb hE hK hC;simp only[NA] at aO;subst aO;have hn:=at_root (ks:=[]) hns;rw[hb] at hn;have hty:=H _ _ hn;simp only[List.length_nil,Nat.add_zero] at hn hty
  have hV:V=.n:=by cases hw;rfl
  have hk:cC ρ (ai T1 (b:Nat))=.n:=by rw[hty];simp[cH,atR,cC]
  simp only[PT.cnt,show (((b+1:Nat):Int)-1)=(b:Int) by omega];refine⟨by rw[hV,hk],λk hh=>by rw[hV] at hh;exact absurd (IV.1 hh) id,?_⟩;exact GA.root hn (by simp) (λk hh=>by rw[hk] at hh;exact absurd (IV.1 hh) id)
 | @name p q s =>
  intro GR V hw rs sc b pre ms post aO hns hb hE hK hC;simp only[NA] at aO;subst aO;have hn:=at_root (ks:=[]) hns;rw[hb] at hn;have hty:=H _ _ hn;simp only[List.length_nil,Nat.add_zero] at hn hty
  have hs:look GR s=some V:=by cases hw with | name h=>exact h
  obtain⟨i,h1,h2⟩:=hE _ _ hs
  have hk:V=cC ρ (ai T1 (b:Nat)):=by rw[hty,h2];simp[cH,atR,h1]
  simp only[PT.cnt,show (((b+1:Nat):Int)-1)=(b:Int) by omega];exact⟨hk,hK _ _ hs,GA.root hn (by simp) (λk hh=>by rw[<- hk] at hh;exact hK _ _ hs k hh)⟩
 | @aP p q nm rg gU a b a' b' ha hb aF bu =>
  intro GR V hw rs sc bs pre ms post aO hns hbs hE hK hC;simp only[NA,bU,cK,Bool.false_eq_true,if_false,if_true] at aO;obtain⟨ks,aL,⟨a1,c1,ct,⟨a2,c2,eZ,⟨_,rfl⟩,rfl⟩,rfl⟩,rfl⟩:=aO;rw[List.append_nil] at hns;have la:=NA.len ct;have lb:=NA.len eZ;have hroot:=at_root hns;rw[hbs,List.length_append,la,lb] at hroot;have hty:=H _ _ hroot
  obtain⟨A,wa,wb⟩:∃ A,jE GR a' A/\jE (GR++[(nm,A)]) b' V:=by
   cases hw with
   | aP wa wb=>exact⟨_,wa,wb⟩
   | two hk=>simp at hk
  simp only[bN,cz,reduceCtorEq,if_false,and_true] at hC;obtain⟨v1,k1,o1⟩:=aF wa rs sc bs pre a1 (a2++([_]++post)) ct (by rw[hns];simp only[List.append_assoc];rfl) hbs hE hK hC.2.1;obtain⟨v2,k2,o2⟩:=bu wb rs _ (bs+a.cnt) (pre++a1) a2 ([_]++post) eZ (by rw[hns];simp only[List.append_assoc];rfl) (by rw[List.length_append,hbs,la]) (hE.snoc (CZ bs a) v1) (hK.snoc k1) hC.2.2
  have hV:V=cC ρ (ai T1 ((bs+(a.cnt+b.cnt):Nat):Int)):=by
   rw[hty];simp only[cH,atR,mX,az,List.getD_cons_succ,List.getD_cons_zero]
   simpa using v2
  simp only[PT.cnt,ax,Nat.add_zero,cW];refine⟨hV,k2,?_⟩;have:=(o1.join o2 (by omega)).join (GA.root (rs:=rs) (by rw[Nat.add_assoc];exact hroot) (by simp[mX]) (λk hh=>by rw[Nat.add_assoc,<- hV] at hh;exact k2 k hh)) (by omega);rw[show bs+a.cnt+b.cnt+1=bs+(1+(a.cnt+b.cnt)) by omega] at this
  simpa [PT.qF,jz,ha.pc] using this
 | @pair p q nm nk rg gU a b a' b' hr ha hb aF bu =>
  intro GR V hw rs sc bs pre ms post aO hns hbs hE hK hC;simp only[NA,bU,cK,Bool.false_eq_true,if_false] at aO;obtain⟨ks,aL,⟨a1,c1,ct,⟨a2,c2,eZ,⟨_,rfl⟩,rfl⟩,rfl⟩,rfl⟩:=aO;rw[List.append_nil] at hns;have la:=NA.len ct;have lb:=NA.len eZ;have hroot:=at_root hns;rw[hbs,List.length_append,la,lb] at hroot;have hty:=H _ _ hroot
  obtain⟨A,B,r,E6,rfl,wa,wb⟩:∃ A B r,ak gU=((r:Nat):Int)/\V=.p r A B/\jE GR a' A/\jE GR b' B:=by
   cases hw with
   | pair hr wa wb=>exact⟨_,_,_,hr,rfl,wa,wb⟩
   | two hk=>simp at hk
  simp only[bN,cz,reduceCtorEq,if_false,and_true] at hC;obtain⟨v1,k1,o1⟩:=aF wa rs sc bs pre a1 (a2++([_]++post)) ct (by rw[hns];simp only[List.append_assoc];rfl) hbs hE hK hC.2.1;obtain⟨v2,k2,o2⟩:=bu wb rs _ (bs+a.cnt) (pre++a1) a2 ([_]++post) eZ (by rw[hns];simp only[List.append_assoc];rfl) (by rw[List.length_append,hbs,la]) hE hK hC.2.2
  have hrρ:r=ρ p:=by have:ak gU=(ρ p:Int):=hr;omega
  have hV:Ty.p r A B=cC ρ (ai T1 ((bs+(a.cnt+b.cnt):Nat):Int)):=by
   rw[hty];simp only[cH,atR,mI,az,List.getD_cons_succ,List.getD_cons_zero];simp only[Nat.reduceEqDiff,if_false,if_true,Int.toNat_natCast,cC];rw[<- v1,<- v2,hrρ]
  have hkk:∀ k,(Ty.p r A B).has k=true->k∈rs:=λk hh=>by
   rcases Dj.1 hh with hh | hh | hh
   ·rw[<- hh,<- E6];exact hC.1 trivial
   ·exact k1 k hh
   ·exact k2 k hh
  simp only[PT.cnt,ax,Nat.add_zero,cW];refine⟨hV,hkk,?_⟩;have:=(o1.join o2 (by omega)).join (GA.root (rs:=rs) (by rw[Nat.add_assoc];exact hroot) (by simp[mI]) (λk hh=>by rw[Nat.add_assoc,<- hV] at hh;exact hkk k hh)) (by omega);rw[show bs+a.cnt+b.cnt+1=bs+(1+(a.cnt+b.cnt)) by omega] at this
  simpa [PT.qF,jz,ha.pc] using this
 | @fst p q nm nk rg gU a a' ha aF =>
  intro GR V hw rs sc bs pre ms post aO hns hbs hE hK hC;simp only[NA,bU,cK,Bool.false_eq_true,if_false] at aO;obtain⟨ks,aL,⟨a1,c1,ct,⟨_,rfl⟩,rfl⟩,rfl⟩:=aO;rw[List.append_nil] at hns;have la:=NA.len ct;have hroot:=at_root hns;rw[hbs,la] at hroot;have hty:=H _ _ hroot
  obtain⟨r,B,wa⟩:∃ r B,jE GR a' (.p r V B):=by cases hw with | fst wa=>exact⟨_,_,wa⟩
  simp only[bN,cz,reduceCtorEq,if_false,and_true] at hC;obtain⟨v1,k1,o1⟩:=aF wa rs sc bs pre a1 ([_]++post) ct (by rw[hns];simp only[List.append_assoc];rfl) hbs hE hK hC.2
  have hV:V=cC ρ (ai T1 ((bs+a.cnt:Nat):Int)):=by
   rw[hty];simp only[cH,atR,mY,az,List.getD_cons_succ,List.getD_cons_zero];simp only[Nat.reduceEqDiff,if_false,if_true];rw[DV,<- v1];rfl
  have hkk:∀ k,V.has k=true->k∈rs:=λk hh=>k1 k (Dj.2 (Or.inr (Or.inl hh)))
  simp only[PT.cnt,ax,Nat.add_zero,cW];refine⟨hV,hkk,?_⟩;have:=o1.join (GA.root (rs:=rs) hroot (by simp[mY]) (λk hh=>by rw[<- hV] at hh;exact hkk k hh)) (by omega);rw[show bs+a.cnt+1=bs+(1+a.cnt) by omega] at this
  simpa [PT.qF,jz] using this
 | @snd p q nm nk rg gU a a' ha aF =>
  intro GR V hw rs sc bs pre ms post aO hns hbs hE hK hC;simp only[NA,bU,cK,Bool.false_eq_true,if_false] at aO;obtain⟨ks,aL,⟨a1,c1,ct,⟨_,rfl⟩,rfl⟩,rfl⟩:=aO;rw[List.append_nil] at hns;have la:=NA.len ct;have hroot:=at_root hns;rw[hbs,la] at hroot;have hty:=H _ _ hroot
  obtain⟨r,A,wa⟩:∃ r A,jE GR a' (.p r A V):=by cases hw with | snd wa=>exact⟨_,_,wa⟩
  simp only[bN,cz,reduceCtorEq,if_false,and_true] at hC;obtain⟨v1,k1,o1⟩:=aF wa rs sc bs pre a1 ([_]++post) ct (by rw[hns];simp only[List.append_assoc];rfl) hbs hE hK hC.2
  have hV:V=cC ρ (ai T1 ((bs+a.cnt:Nat):Int)):=by
   rw[hty];simp only[cH,atR,mZ,az,List.getD_cons_succ,List.getD_cons_zero];simp only[Nat.reduceEqDiff,if_false,if_true];rw[DW,<- v1];rfl
  have hkk:∀ k,V.has k=true->k∈rs:=λk hh=>k1 k (Dj.2 (Or.inr (Or.inr hh)))
  simp only[PT.cnt,ax,Nat.add_zero,cW];refine⟨hV,hkk,?_⟩;have:=o1.join (GA.root (rs:=rs) hroot (by simp[mZ]) (λk hh=>by rw[<- hV] at hh;exact hkk k hh)) (by omega);rw[show bs+a.cnt+1=bs+(1+a.cnt) by omega] at this
  simpa [PT.qF,jz] using this
 | @di p q nm nk rg gU a b c a' b' c' ha hb hc aF bu fe =>
  intro GR V hw rs sc bs pre ms post aO hns hbs hE hK hC;simp only[NA,bU,cK,Bool.false_eq_true,if_false] at aO;obtain⟨ks,aL,⟨a1,c1,ct,⟨a2,c2,eZ,⟨a3,c3,uy,⟨_,rfl⟩,rfl⟩,rfl⟩,rfl⟩,rfl⟩:=aO;rw[List.append_nil] at hns;have la:=NA.len ct;have lb:=NA.len eZ;have lc:=NA.len uy;have hroot:=at_root hns;rw[hbs,List.length_append,List.length_append,la,lb,lc] at hroot;have hty:=H _ _ hroot
  obtain⟨wa,wb,wc⟩:jE GR a' .n/\jE GR b' V/\jE GR c' V:=by cases hw with | di wa wb wc=>exact⟨wa,wb,wc⟩
  simp only[bN,cz,reduceCtorEq,if_false,and_true] at hC;obtain⟨v1,k1,o1⟩:=aF wa rs sc bs pre a1 (a2++(a3++([_]++post))) ct (by rw[hns];simp only[List.append_assoc];rfl) hbs hE hK hC.2.1;obtain⟨v2,k2,o2⟩:=bu wb rs sc (bs+a.cnt) (pre++a1) a2 (a3++([_]++post)) eZ (by rw[hns];simp only[List.append_assoc];rfl) (by rw[List.length_append,hbs,la]) hE hK hC.2.2.1;obtain⟨v3,k3,o3⟩:=fe wc rs sc (bs+a.cnt+b.cnt) (pre++a1++a2) a3 ([_]++post) uy (by rw[hns];simp only[List.append_assoc];rfl) (by rw[List.length_append,List.length_append,hbs,la,lb]) hE hK hC.2.2.2
  have hV:V=cC ρ (ai T1 ((bs+(a.cnt+(b.cnt+c.cnt)):Nat):Int)):=by
   rw[hty];simp only[cH,atR,tT,az,List.getD_cons_succ,List.getD_cons_zero]
   simpa using v2
  simp only[PT.cnt,ax,Nat.add_zero,cW];refine⟨hV,k2,?_⟩
  have:=((o1.join o2 (by omega)).join o3 (by omega)).join (GA.root (rs:=rs) (by rw[show bs+a.cnt+b.cnt+c.cnt=bs+(a.cnt+(b.cnt+c.cnt)) by omega];exact hroot) (λ_=>by
   simp only[az,List.getD_cons_succ,List.getD_cons_zero]
   rw[<- v2,<- v3]) (λk hh=>by rw[show bs+a.cnt+b.cnt+c.cnt=bs+(a.cnt+(b.cnt+c.cnt)) by omega,<- hV] at hh;exact k2 k hh)) (by omega)
  rw[show bs+a.cnt+b.cnt+c.cnt+1=bs+(1+(a.cnt+(b.cnt+c.cnt))) by omega] at this
  simpa [PT.qF,jz,ha.pc,hb.pc] using this
 | @two p q k nm nk rg gU a b a' b' hkk ha hb aF bu =>
  intro GR V hw rs sc bs pre ms post aO hns hbs hE hK hC
  have hkb:bU k=[false,false]:=by rcases hkk with rfl | rfl | rfl <;> rfl
  have A9:aZ k=8\/aZ k=9\/aZ k=10:=by rcases hkk with rfl | rfl | rfl <;> decide
  have hkn:k≠.new:=by rcases hkk with rfl | rfl | rfl <;> decide
  simp only[NA,hkb,cK,Bool.false_eq_true,if_false] at aO;obtain⟨ks,aL,⟨a1,c1,ct,⟨a2,c2,eZ,⟨_,rfl⟩,rfl⟩,rfl⟩,rfl⟩:=aO;rw[List.append_nil] at hns;have la:=NA.len ct;have lb:=NA.len eZ;have hroot:=at_root hns;rw[hbs,List.length_append,la,lb] at hroot;have hty:=H _ _ hroot
  obtain⟨rfl,wa,wb⟩:V=.n/\jE GR a' .n/\jE GR b' .n:=by
   cases hw with
   | two _ wa wb=>exact⟨rfl,wa,wb⟩
   | aP _ _=>simp at hkk
   | pair _ _ _=>simp at hkk
  simp only[bN,cz,if_neg hkn,and_true] at hC;obtain⟨v1,k1,o1⟩:=aF wa rs sc bs pre a1 (a2++([_]++post)) ct (by rw[hns];simp only[List.append_assoc];rfl) hbs hE hK hC.2.1;obtain⟨v2,k2,o2⟩:=bu wb rs _ (bs+a.cnt) (pre++a1) a2 ([_]++post) eZ (by rw[hns];simp only[List.append_assoc];rfl) (by rw[List.length_append,hbs,la]) hE hK hC.2.2
  have hV:Ty.n=cC ρ (ai T1 ((bs+(a.cnt+b.cnt):Nat):Int)):=by
   rw[hty];simp only[cH,atR]
   rcases A9 with h | h | h <;> simp[h,cC]
  have ko:∀ j,Ty.n.has j=true->j∈rs:=λj hh=>absurd (IV.1 hh) id
  simp only[PT.cnt,ax,Nat.add_zero,cW];refine⟨hV,ko,?_⟩;have:=(o1.join o2 (by omega)).join (GA.root (rs:=rs) (by rw[Nat.add_assoc];exact hroot) (λhf=>by simp only at hf;omega) (λj hh=>by rw[Nat.add_assoc,<- hV] at hh;exact ko j hh)) (by omega);rw[show bs+a.cnt+b.cnt+1=bs+(1+(a.cnt+b.cnt)) by omega] at this
  simpa [PT.qF,jz,ha.pc,hkn] using this
 | @loop p q nm rg gU a b c a' b' c' ha hb hc aF bu fe =>
  intro GR V hw rs sc bs pre ms post aO hns hbs hE hK hC;simp only[NA,bU,cK,Bool.false_eq_true,if_false,if_true] at aO;obtain⟨ks,aL,⟨a1,c1,ct,⟨a2,c2,eZ,⟨a3,c3,uy,⟨_,rfl⟩,rfl⟩,rfl⟩,rfl⟩,rfl⟩:=aO;rw[List.append_nil] at hns;have la:=NA.len ct;have lb:=NA.len eZ;have lc:=NA.len uy;have hroot:=at_root hns;rw[hbs,List.length_append,List.length_append,la,lb,lc] at hroot;have hty:=H _ _ hroot
  obtain⟨wa,wb,wc⟩:jE GR a' .n/\jE GR b' V/\jE (GR++[(nm,V)]) c' V:=by cases hw with | loop wa wb wc=>exact⟨wa,wb,wc⟩
  simp only[bN,cz,reduceCtorEq,if_false,and_true] at hC;obtain⟨v1,k1,o1⟩:=aF wa rs sc bs pre a1 (a2++(a3++([_]++post))) ct (by rw[hns];simp only[List.append_assoc];rfl) hbs hE hK hC.2.1;obtain⟨v2,k2,o2⟩:=bu wb rs sc (bs+a.cnt) (pre++a1) a2 (a3++([_]++post)) eZ (by rw[hns];simp only[List.append_assoc];rfl) (by rw[List.length_append,hbs,la]) hE hK hC.2.2.1;obtain⟨v3,k3,o3⟩:=fe wc rs _ (bs+a.cnt+b.cnt) (pre++a1++a2) a3 ([_]++post) uy (by rw[hns];simp only[List.append_assoc];rfl) (by rw[List.length_append,List.length_append,hbs,la,lb]) (hE.snoc (CZ (bs+a.cnt) b) v2) (hK.snoc k2) hC.2.2.2
  have hV:V=cC ρ (ai T1 ((bs+(a.cnt+(b.cnt+c.cnt)):Nat):Int)):=by
   rw[hty];simp only[cH,atR,kY,az,List.getD_cons_succ,List.getD_cons_zero]
   simpa using v2
  simp only[PT.cnt,ax,Nat.add_zero,cW];refine⟨hV,k2,?_⟩
  have:=((o1.join o2 (by omega)).join o3 (by omega)).join (GA.root (rs:=rs) (by rw[show bs+a.cnt+b.cnt+c.cnt=bs+(a.cnt+(b.cnt+c.cnt)) by omega];exact hroot) (λ_=>by
   simp only[az,List.getD_cons_succ,List.getD_cons_zero]
   rw[<- v2,<- v3]) (λk hh=>by rw[show bs+a.cnt+b.cnt+c.cnt=bs+(a.cnt+(b.cnt+c.cnt)) by omega,<- hV] at hh;exact k2 k hh)) (by omega)
  rw[show bs+a.cnt+b.cnt+c.cnt+1=bs+(1+(a.cnt+(b.cnt+c.cnt))) by omega] at this
  simpa [PT.qF,jz,ha.pc,hb.pc] using this
 | @new q nm rg e a' ha aF =>
  intro GR V hw rs sc bs pre ms post aO hns hbs hE hK hC
  obtain⟨wa,hm⟩:jE GR a' V/\V.has (ak rg)=false:=by cases hw with | new wa hm=>exact⟨wa,hm⟩
  simp only[bN,cz,if_true,and_true] at hC;obtain⟨v1,k1,o1⟩:=aF wa (ak rg::rs) sc bs pre ms post aO hns hbs hE (λs U hs k hh=>List.mem_cons_of_mem _ (hK s U hs k hh)) hC.2;have Yb:=cV e;refine⟨v1,λk hh=>?_,o1.one,λi k h1 h2 hh hk=>?_,λk x y hm'=>?_⟩
  ·rcases List.mem_cons.1 (k1 k hh) with hk | hk
   ·rw[hk,hm] at hh;cases hh
   ·exact hk
  ·simp only[PT.qF,jz,if_true,List.append_nil]
   by_cases he:k=ak rg
   ·exact⟨bs,Gz [a'],by rw[he];simp,h1,by simp only[Gz,Nat.add_zero,ha.pc];exact h2⟩
   ·obtain ⟨x,y,m,r⟩:=o1.SJ i k h1 h2 hh (λhm=>by
     rcases List.mem_cons.1 hm with hm | hm
     ·exact he hm
     ·exact hk hm)
    exact⟨x,y,by simp[m],r⟩
  ·simp only[PT.qF,jz,if_true,List.append_nil,List.singleton_append,List.mem_cons] at hm'
   rcases hm' with hm' | hm'
   ·simp only[Prod.mk.injEq,Gz,Nat.add_zero,ha.pc] at hm'
    obtain⟨rfl,rfl,rfl⟩:=hm';refine⟨Nat.le_refl _,Yb,Nat.le_refl _,?_⟩;rw[show (((x+e.cnt-1:Nat):Int))=((x+e.cnt:Nat):Int)-1 by omega,<- v1];exact hm
   ·exact o1.nw k x y hm'
end Go.Proofs.YtpicaknklgccoabGreatDoor
