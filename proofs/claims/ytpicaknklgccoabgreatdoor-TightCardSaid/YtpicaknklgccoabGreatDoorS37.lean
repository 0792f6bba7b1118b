import Derived.Test.YtpicaknklgccoabGreatDoorS36
namespace Go.Proofs.YtpicaknklgccoabGreatDoor
open Go.Lib (decDigits)
theorem jP (i:Int) (t:PT):∀ (l:List Int) (r:Nat) (rs:List Int),(∀ rs':List Int,(∀ x∈rs,x∈rs')->(∀ j,l[j]?=some i->((r+j:Nat):Int)∈rs')->cg rs' t)->cg rs (eF l r i t)
 | [],r,rs,h=>h rs (fun _ hx=>hx) (fun j hj=>by simp at hj)
 | a::l,r,rs,h=>by
  simp only [eF]
  split
  ·rename_i e
   simp only [cg,if_true,cV,and_true]
   refine ⟨(fun h=>by cases h),jP i t l (r+1) _ (fun rs' h1 h2=>h rs' (fun x hx=>h1 x (by simp [hx])) (fun j hj=>?_))⟩
   cases j with
   | zero=>exact h1 _ (by rw [yj];simp)
   | succ j=>rw [show r+(j+1)=r+1+j by omega];exact h2 j (by simpa using hj)
  ·rename_i e
   refine jP i t l (r+1) rs (fun rs' h1 h2=>h rs' h1 (fun j hj=>?_))
   cases j with
   | zero=>simp only [List.getElem?_cons_zero,Option.some.injEq] at hj;exact absurd hj e
   | succ j=>rw [show r+(j+1)=r+1+j by omega];exact h2 j (by simpa using hj)
def QIn (regs news:List Int) (ns:List NR) (rs:List Int) (lo hi:Nat):Prop:=∀ (i:Nat) (n:NR),lo<=i->i < hi->ns[i]?=some n->n.form=4->jJ regs i∈rs\/∃ (j:Nat) (m:NR),lo<=j/\j < hi/\ns[j]?=some m/\news[(jJ regs i).toNat]?=some (j:Int)/\m.at_<=n.at_/\n.aR<=m.aR
mutual
theorem dr.Pv:∀ {t:PT} {ms:List NR} {lo hi:Nat},dr t ms lo hi->∀ n∈ms,lo<=n.at_/\n.at_ < n.aR/\n.aR<=hi
 | .num p _,ms,lo,hi,h,n,hn=>by simp only [dr] at h;obtain ⟨m,rfl,h1,h2,h3,h4⟩:=h;simp only [List.mem_singleton] at hn;subst hn;omega
 | .name p _,ms,lo,hi,h,n,hn=>by simp only [dr] at h;obtain ⟨m,rfl,h1,h2,h3,h4⟩:=h;simp only [List.mem_singleton] at hn;subst hn;omega
 | .node p _ _ _ kids,ms,lo,hi,h,n,hn=>by
  simp only [dr] at h
  obtain ⟨ks,m,rfl,h1,h2,h3,h4,h5⟩:=h
  rcases List.mem_append.1 hn with hn | hn
  ·have:=bZ.Pv h3 n hn;omega
  ·simp only [List.mem_singleton] at hn;subst hn;omega
theorem bZ.Pv:∀ {ts:List PT} {ms:List NR} {lo hi:Nat},bZ ts ms lo hi->∀ n∈ms,lo<=n.at_/\n.at_ < n.aR/\n.aR<=hi
 | [],ms,lo,hi,h,n,hn=>by simp only [bZ] at h;rw [h.1] at hn;simp at hn
 | t::r,ms,lo,hi,h,n,hn=>by
  simp only [bZ] at h
  obtain ⟨a,c,mid,rfl,h1,h2⟩:=h
  have hl:=h1.lt
  have hr:=h2.le
  rcases List.mem_append.1 hn with hn | hn
  ·have:=dr.Pv h1 n hn;omega
  ·have:=bZ.Pv h2 n hn;omega
end
mutual
theorem dr.len:∀ {t:PT} {ms:List NR} {lo hi:Nat},dr t ms lo hi->ms.length=t.cnt
 | .num p _,ms,lo,hi,h=>by simp only [dr] at h;obtain ⟨m,rfl,_⟩:=h;rfl
 | .name p _,ms,lo,hi,h=>by simp only [dr] at h;obtain ⟨m,rfl,_⟩:=h;rfl
 | .node p _ _ _ kids,ms,lo,hi,h=>by
  simp only [dr] at h
  obtain ⟨ks,m,rfl,h1,h2,h3,h4,h5⟩:=h
  simp only [PT.cnt,List.length_append,List.length_singleton,bZ.len h3];omega
theorem bZ.len:∀ {ts:List PT} {ms:List NR} {lo hi:Nat},bZ ts ms lo hi->ms.length=az ts
 | [],ms,lo,hi,h=>by simp only [bZ] at h;rw [h.1];rfl
 | t::r,ms,lo,hi,h=>by
  simp only [bZ] at h
  obtain ⟨a,c,mid,rfl,h1,h2⟩:=h
  simp only [az,List.length_append,dr.len h1,bZ.len h2]
end
def Ou (ns ms:List NR) (b:Nat):Prop:=∀ (k:Nat) (n:NR),ms[k]?=some n->ns[b+k]?=some n
theorem Ou.mem {ns ms:List NR} {b j:Nat} {m:NR} (h:Ou ns ms b) (h1:b<=j) (h2:j < b+ms.length) (hm:ns[j]?=some m):m∈ms:=by
 have hk:j - b < ms.length:=by omega
 have:=h (j - b) ms[j - b] (List.getElem?_eq_getElem hk)
 rw [show b+(j - b)=j by omega,hm] at this
 simp only [Option.some.injEq] at this
 rw [this];exact List.getElem_mem hk
theorem Ou.left {ns a c:List NR} {b:Nat} (h:Ou ns (a++c) b):Ou ns a b:=fun k n hn=>h k n (by rw [List.getElem?_append_left (List.getElem?_eq_some_iff.1 hn).1];exact hn)
theorem Ou.right {ns a c:List NR} {b:Nat} (h:Ou ns (a++c) b):Ou ns c (b+a.length):=fun k n hn=>by
 have:=h (a.length+k) n (by rw [List.getElem?_append_right (by omega),Nat.add_sub_cancel_left];exact hn)
 rw [Nat.add_assoc];exact this
theorem KF {regs:List Int} {i:Nat} (h:0<=jJ regs i):aq (SL regs i)=jJ regs i:=by
 unfold SL
 rw [if_neg (by omega),yj];omega
mutual
theorem yz {regs news:List Int} {ns:List NR} (H:Pu regs ns):∀ (t:PT) (ms:List NR) (lo hi b:Nat) (rs:List Int),dr t ms lo hi->Ou ns ms b->fG ns t b->cS t->QIn regs news ns rs b (b+t.cnt)->cg rs (t.lay regs news b)
 | .num _ _,ms,lo,hi,b,rs,_,_,_,_,_=>jP _ _ news 0 rs (fun _ _ _=>by simp [PT.eU,cg])
 | .name _ _,ms,lo,hi,b,rs,_,_,_,_,_=>jP _ _ news 0 rs (fun _ _ _=>by simp [PT.eU,cg])
 | .node p k nm rg kids,ms,lo,hi,b,rs,hp,he,hs,hn,hq=>by
  cases hn with
  | node hk hn =>
  simp only [dr] at hp
  obtain ⟨ks,n0,rfl,h1,h2,h3,h4,h5⟩:=hp
  simp only [fG] at hs
  obtain ⟨⟨n,eK,hf,_⟩,hks⟩:=hs
  have hkl:=h3.len
  have hn0:ns[b+az kids]?=some n0:=by
   have:=he ks.length n0 (by rw [List.getElem?_append_right (Nat.le_refl _),Nat.sub_self];rfl)
   rwa [hkl] at this
  have hnn:n=n0:=by rw [eK] at hn0;exact Option.some.inj hn0
  subst hnn
  have hek:Ou ns ks b:=he.left
  simp only [PT.cnt] at hq
  unfold PT.lay
  refine jP _ _ news 0 rs (fun rs' g1 g2=>?_)
  simp only [PT.cnt,eV] at g2
  simp only [PT.eU,cg,if_neg hk]
  refine ⟨fun Y2=>?_,uS H kids ks _ _ b rs' h3 hek hks hn (fun i m i1 i2 hm h4m=>?_)⟩
  ·have h4:n.form=4:=by rw [hf];exact (Iv k).2 Y2
   have hr:=(H _ _ eK).1 h4
   rw [KF hr.1]
   rcases hq (b+az kids) n (by omega) (by omega) eK h4 with hq | ⟨j,m,j1,j2,hj,SU,ha,hb⟩
   ·exact g1 _ hq
   ·by_cases zO:j=b+az kids
    ·have:=g2 (jJ regs (b+az kids)).toNat (by rw [SU,zO])
     rw [Nat.zero_add,Int.toNat_of_nonneg hr.1] at this
     exact this
    ·exfalso
     have:=h3.Pv m (hek.mem j1 (by omega) hj)
     omega
  ·rcases hq i m i1 (by omega) hm h4m with hq | ⟨j,m',j1,j2,hj,SU,ha,hb⟩
   ·exact Or.inl (g1 _ hq)
   ·by_cases zO:j=b+az kids
    ·left
     have hr:=(H _ _ hm).1 h4m
     have:=g2 (jJ regs i).toNat (by rw [SU,zO])
     rw [Nat.zero_add,Int.toNat_of_nonneg hr.1] at this
     exact this
    ·exact Or.inr ⟨j,m',j1,by omega,hj,SU,ha,hb⟩
theorem uS {regs news:List Int} {ns:List NR} (H:Pu regs ns):∀ (ts:List PT) (ms:List NR) (lo hi b:Nat) (rs:List Int),bZ ts ms lo hi->Ou ns ms b->fM ns ts b->(∀ x∈ts,cS x)->QIn regs news ns rs b (b+az ts)->cV rs (gD regs news ts b)
 | [],ms,lo,hi,b,rs,_,_,_,_,_=>by simp [gD,cV]
 | t::r,ms,lo,hi,b,rs,hp,he,hs,hn,hq=>by
  simp only [bZ] at hp
  obtain ⟨a,c,mid,rfl,h1,h2⟩:=hp
  simp only [fM] at hs
  simp only [az] at hq
  have la:=h1.len
  have lc:=h2.len
  have hr:=he.right
  rw [la] at hr
  simp only [gD,cV]
  refine ⟨yz H t a lo mid b rs h1 he.left hs.1 (hn t (by simp)) (fun i n i1 i2 hi h4=>?_),uS H r c mid hi (b+t.cnt) rs h2 hr hs.2 (fun x hx=>hn x (by simp [hx])) (fun i n i1 i2 hi h4=>?_)⟩
  ·rcases hq i n i1 (by omega) hi h4 with hq | ⟨j,m,j1,j2,hj,SU,ha,hb⟩
   ·exact Or.inl hq
   ·by_cases hlt:j < b+t.cnt
    ·exact Or.inr ⟨j,m,j1,hlt,hj,SU,ha,hb⟩
    ·exfalso
     have q1:=h1.Pv n (he.left.mem i1 (by omega) hi)
     have q2:=h2.Pv m (hr.mem (by omega) (by omega) hj)
     omega
  ·rcases hq i n (by omega) (by omega) hi h4 with hq | ⟨j,m,j1,j2,hj,SU,ha,hb⟩
   ·exact Or.inl hq
   ·by_cases hlt:j < b+t.cnt
    ·exfalso
     have q1:=h1.Pv m (he.left.mem j1 (by omega) hj)
     have q2:=h2.Pv n (hr.mem i1 (by omega) hi)
     omega
    ·exact Or.inr ⟨j,m,by omega,by omega,hj,SU,ha,hb⟩
end
theorem yA (T:List Ty) (rg:Nat):∀ (l:List NR) (k a b:Nat),(dI T rg l k a b).1<=a/\b<=(dI T rg l k a b).2/\∀ (i:Nat) (n:NR),l[i]?=some n->(ai T ((k+i:Nat):Int)).has rg=true->(dI T rg l k a b).1<=n.at_/\n.aR<=(dI T rg l k a b).2
 | [],k,a,b=>⟨Nat.le_refl _,Nat.le_refl _,fun i n h=>by simp at h⟩
 | m::r,k,a,b=>by
  simp only [dI]
  split
  ·rename_i hm
   obtain ⟨h1,h2,h3⟩:=yA T rg r (k+1) (if m.at_ < a then m.at_ else a) (if b < m.aR then m.aR else b)
   have e1:(if m.at_ < a then m.at_ else a)<=a/\(if m.at_ < a then m.at_ else a)<=m.at_:=by split <;> omega
   have e2:b<=(if b < m.aR then m.aR else b)/\m.aR<=(if b < m.aR then m.aR else b):=by split <;> omega
   refine ⟨by omega,by omega,fun i n hn hh=>?_⟩
   cases i with
   | zero=>simp only [List.getElem?_cons_zero,Option.some.injEq] at hn;subst hn;omega
   | succ i=>exact h3 i n (by simpa using hn) (by rw [show k+1+i=k+(i+1) by omega];exact hh)
  ·rename_i hm
   obtain ⟨h1,h2,h3⟩:=yA T rg r (k+1) a b
   refine ⟨h1,h2,fun i n hn hh=>?_⟩
   cases i with
   | zero=>exact absurd hh (by simpa using hm)
   | succ i=>exact h3 i n (by simpa using hn) (by rw [show k+1+i=k+(i+1) by omega];exact hh)
structure AP (T:List Ty) (ns:List NR) (A:List Ty) (U:Ty):Prop where
 pl:uD T ns=(0,0)
 run:bC T ns=T++(A++[U])
theorem AP.root {T:List Ty} {ks:List NR} {A:List Ty} (n:NR) (U:Ty) (hp:uD T ks=(0,0)) (hr:bC T ks=T++A) (hU:cR (T++A) n=U) (hv:pR (T++A++[U]) n=0):AP T (ks++[n]) A U:=by
 refine ⟨?_,?_⟩
 ·rw [o5,hp,if_neg (by simp),hr]
  simp only [uD,hU,hv,ne_eq,not_true_eq_false,if_false]
 ·rw [ky,hr]
  simp only [bC,hU,List.append_assoc]
theorem AP.two {T:List Ty} {n1 n2:List NR} {A B:List Ty} {U V:Ty} (h:AP T n1 A U) (g:AP (T++(A++[U])) n2 B V):uD T (n1++n2)=(0,0)/\bC T (n1++n2)=T++((A++[U])++(B++[V])):=by
 refine ⟨?_,?_⟩
 ·rw [o5,h.pl,if_neg (by simp),h.run,g.pl]
 ·rw [ky,h.run,g.run,List.append_assoc]
theorem AP.three {T:List Ty} {n1 n2 n3:List NR} {A B C:List Ty} {U V W:Ty} (h:AP T n1 A U) (g:AP (T++(A++[U])) n2 B V) (k:AP (T++(A++[U])++(B++[V])) n3 C W):uD T (n1++(n2++n3))=(0,0)/\bC T (n1++(n2++n3))=T++((A++[U])++((B++[V])++(C++[W]))):=by
 have g2:=g.two k
 refine ⟨?_,?_⟩
 ·rw [o5,h.pl,if_neg (by simp),h.run,g2.1]
 ·rw [ky,h.run,g2.2,List.append_assoc]
def GD (GR:aQ) (sc:Sc) (T:List Ty):Prop:=∀ s U,look GR s=some U->∃ i:Nat,bN sc s=(i:Int)/\T[i]?=some U
theorem GD.more {GR:aQ} {sc:Sc} {T:List Ty} (h:GD GR sc T) (X:List Ty):GD GR sc (T++X):=fun s U hs=>by
 obtain ⟨i,h1,h2⟩:=h s U hs
 exact ⟨i,h1,by rw [List.getElem?_append_left (List.getElem?_eq_some_iff.1 h2).1];exact h2⟩
theorem GD.snoc {GR:aQ} {sc:Sc} {T A:List Ty} {nm:List UInt8} {U:Ty} {c:Nat} (h:GD GR sc T) (hc:c=A.length+1):GD (GR++[(nm,U)]) (sc++[(nm,((T.length+c:Nat):Int) - 1)]) (T++(A++[U])):=fun s V hs=>by
 rw [lj] at hs
 rw [lW]
 by_cases e:nm=s
 ·rw [if_pos e] at hs ⊢
  simp only [Option.some.injEq] at hs
  subst hs
  refine ⟨T.length+A.length,by omega,?_⟩
  rw [List.getElem?_append_right (by omega),Nat.add_sub_cancel_left,List.getElem?_append_right (by omega),Nat.sub_self];rfl
 ·rw [if_neg e] at hs ⊢
  exact h.more _ s V hs
theorem mw.plw {GR:aQ} {e:PT} {U:Ty} (h:mw GR e U):∀ (sc:Sc) (T:List Ty) (ns:List NR),NA sc e T.length ns->GD GR sc T->∃ A,A.length+1=e.cnt/\AP T ns A U:=by
 induction h with
 | num h =>
  intro sc T ns bt _
  simp only [NA] at bt
  subst bt
  exact ⟨[],rfl,AP.root (ks:=[]) _ _ rfl (by simp [bC]) (by simp [cR]) (by simp [pR])⟩
 | name hs =>
  intro sc T ns bt hE
  simp only [NA] at bt
  subst bt
  obtain ⟨i,h1,h2⟩:=hE _ _ hs
  refine ⟨[],rfl,AP.root (ks:=[]) _ _ rfl (by simp [bC]) ?_ (by simp [pR])⟩
  simp only [cR,if_true,h1];rw [List.append_nil];have:=rB [] h2;rw [List.append_nil] at this;exact this
 | @aT G p nm rg a b UA UB ha hb aM bH =>
  intro sc T ns bt hE
  simp only [NA,cf,cY,Bool.false_eq_true,if_false] at bt
  obtain ⟨ks,aR,⟨a1,c1,eK,⟨a2,c2,mf,⟨_,rfl⟩,rfl⟩,rfl⟩,rfl⟩:=bt
  obtain ⟨A,hA,h1⟩:=aM sc T a1 eK hE
  obtain ⟨B,hB,h2⟩:=bH _ (T++(A++[UA])) a2 (by simp only [if_true] at mf;rw [List.length_append,List.length_append,List.length_singleton,hA];exact mf) (hE.snoc hA.symm)
  obtain ⟨t1,t3⟩:=h1.two h2
  rw [List.append_nil]
  have hk:=kn2 T A B [] UA UB _ _ hA hB
  rw [List.append_nil] at hk
  refine ⟨_,?_,AP.root _ _ t1 t3 ?_ (by simp [pR,rD])⟩
  ·simp only [PT.cnt,az,List.length_append,List.length_singleton];omega
  ·simp only [cR,rD,aA,List.getD_cons_succ,List.getD_cons_zero]
   simp only [Nat.reduceEqDiff,if_false,if_true]
   exact hk.2
 | @pair G p nm rg a b UA UB r hr ha hb aM bH =>
  intro sc T ns bt hE
  simp only [NA,cf,cY,Bool.false_eq_true,if_false] at bt
  obtain ⟨ks,aR,⟨a1,c1,eK,⟨a2,c2,mf,⟨_,rfl⟩,rfl⟩,rfl⟩,rfl⟩:=bt
  obtain ⟨A,hA,h1⟩:=aM sc T a1 eK hE
  obtain ⟨B,hB,h2⟩:=bH sc (T++(A++[UA])) a2 (by rw [List.length_append,List.length_append,List.length_singleton,hA];exact mf) (hE.more _)
  obtain ⟨t1,t3⟩:=h1.two h2
  rw [List.append_nil]
  have hk:=kn2 T A B [] UA UB _ _ hA hB
  rw [List.append_nil] at hk
  refine ⟨_,?_,AP.root _ _ t1 t3 ?_ (by simp [pR,nj])⟩
  ·simp only [PT.cnt,az,List.length_append,List.length_singleton];omega
  ·simp only [cR,nj,aA,List.getD_cons_succ,List.getD_cons_zero,hr]
   simp only [Nat.reduceEqDiff,if_false,if_true,Int.toNat_natCast]
   rw [hk.1,hk.2]
 | @fst G p nm rg a r UA UB ha aM =>
  intro sc T ns bt hE
  simp only [NA,cf,cY,Bool.false_eq_true,if_false] at bt
  obtain ⟨ks,aR,⟨a1,c1,eK,⟨_,rfl⟩,rfl⟩,rfl⟩:=bt
  obtain ⟨A,hA,h1⟩:=aM sc T a1 eK hE
  rw [List.append_nil]
  have hk:=jz T A [] (.p r UA UB) _ hA.symm
  rw [List.append_nil] at hk
  refine ⟨_,?_,AP.root _ _ h1.pl h1.run ?_ (by simp [pR,rE])⟩
  ·simp only [PT.cnt,az,List.length_append,List.length_singleton];omega
  ·simp only [cR,rE,aA,List.getD_cons_zero]
   simp only [Nat.reduceEqDiff,if_false,if_true]
   rw [hk];rfl
 | @snd G p nm rg a r UA UB ha aM =>
  intro sc T ns bt hE
  simp only [NA,cf,cY,Bool.false_eq_true,if_false] at bt
  obtain ⟨ks,aR,⟨a1,c1,eK,⟨_,rfl⟩,rfl⟩,rfl⟩:=bt
  obtain ⟨A,hA,h1⟩:=aM sc T a1 eK hE
  rw [List.append_nil]
  have hk:=jz T A [] (.p r UA UB) _ hA.symm
  rw [List.append_nil] at hk
  refine ⟨_,?_,AP.root _ _ h1.pl h1.run ?_ (by simp [pR,rF])⟩
  ·simp only [PT.cnt,az,List.length_append,List.length_singleton];omega
  ·simp only [cR,rF,aA,List.getD_cons_zero]
   simp only [Nat.reduceEqDiff,if_false,if_true]
   rw [hk];rfl
 | @dQ G p nm rg a b c U ha hb hc aM bH gL =>
  intro sc T ns bt hE
  simp only [NA,cf,cY,Bool.false_eq_true,if_false] at bt
  obtain ⟨ks,aR,⟨a1,c1,eK,⟨a2,c2,mf,⟨a3,c3,Gt,⟨_,rfl⟩,rfl⟩,rfl⟩,rfl⟩,rfl⟩:=bt
  obtain ⟨A,hA,h1⟩:=aM sc T a1 eK hE
  have hl1:(T++(A++[Ty.n])).length=T.length+a.cnt:=by rw [List.length_append,List.length_append,List.length_singleton,hA]
  obtain ⟨B,hB,h2⟩:=bH sc (T++(A++[Ty.n])) a2 (by rw [hl1];exact mf) (hE.more _)
  have hl2:(T++(A++[Ty.n])++(B++[U])).length=T.length+a.cnt+b.cnt:=by rw [List.length_append,hl1,List.length_append,List.length_singleton,hB]
  obtain ⟨C,hC,h3⟩:=gL sc (T++(A++[Ty.n])++(B++[U])) a3 (by rw [hl2];exact Gt) ((hE.more _).more _)
  obtain ⟨t1,t3⟩:=h1.three h2 h3
  rw [List.append_nil]
  have hk:=fun X=>kn3 T A B C X .n U U _ _ _ hA hB hC
  have pX:=hk []
  rw [List.append_nil] at pX
  refine ⟨_,?_,AP.root _ _ t1 t3 ?_ ?_⟩
  ·simp only [PT.cnt,az,List.length_append,List.length_singleton];omega
  ·simp only [cR,uN,aA,List.getD_cons_succ,List.getD_cons_zero]
   simp only [Nat.reduceEqDiff,if_false,if_true]
   exact pX.2.1
  ·simp only [pR,uN,true_or,if_true,aA,List.getD_cons_succ,List.getD_cons_zero]
   rw [(hk [U]).2.1,(hk [U]).2.2,if_pos rfl]
 | @two G p k nm rg a b hkk ha hb aM bH =>
  intro sc T ns bt hE
  have hkb:cf k=[false,false]:=by rcases hkk with rfl | rfl | rfl <;> rfl
  have Fj:aY k=8\/aY k=9\/aY k=10:=by rcases hkk with rfl | rfl | rfl <;> decide
  simp only [NA,hkb,cY,Bool.false_eq_true,if_false] at bt
  obtain ⟨ks,aR,⟨a1,c1,eK,⟨a2,c2,mf,⟨_,rfl⟩,rfl⟩,rfl⟩,rfl⟩:=bt
  obtain ⟨A,hA,h1⟩:=aM sc T a1 eK hE
  obtain ⟨B,hB,h2⟩:=bH sc (T++(A++[Ty.n])) a2 (by rw [List.length_append,List.length_append,List.length_singleton,hA];exact mf) (hE.more _)
  obtain ⟨t1,t3⟩:=h1.two h2
  rw [List.append_nil]
  refine ⟨_,?_,AP.root _ _ t1 t3 ?_ ?_⟩
  ·simp only [PT.cnt,az,List.length_append,List.length_singleton];omega
  ·simp only [cR]
   rcases Fj with h | h | h <;> simp [h]
  ·simp only [pR]
   rcases Fj with h | h | h <;> simp [h]
 | @loop G p nm rg a b c U ha hb hc aM bH gL =>
  intro sc T ns bt hE
  simp only [NA,cf,cY,Bool.false_eq_true,if_false,if_true] at bt
  obtain ⟨ks,aR,⟨a1,c1,eK,⟨a2,c2,mf,⟨a3,c3,Gt,⟨_,rfl⟩,rfl⟩,rfl⟩,rfl⟩,rfl⟩:=bt
  obtain ⟨A,hA,h1⟩:=aM sc T a1 eK hE
  have hl1:(T++(A++[Ty.n])).length=T.length+a.cnt:=by rw [List.length_append,List.length_append,List.length_singleton,hA]
  obtain ⟨B,hB,h2⟩:=bH sc (T++(A++[Ty.n])) a2 (by rw [hl1];exact mf) (hE.more _)
  have uJ:=(hE.more (A++[Ty.n])).snoc (nm:=nm) (U:=U) hB.symm
  rw [hl1] at uJ
  have hl2:(T++(A++[Ty.n])++(B++[U])).length=T.length+a.cnt+b.cnt:=by rw [List.length_append,hl1,List.length_append,List.length_singleton,hB]
  obtain ⟨C,hC,h3⟩:=gL _ (T++(A++[Ty.n])++(B++[U])) a3 (by rw [hl2];exact Gt) uJ
  obtain ⟨t1,t3⟩:=h1.three h2 h3
  rw [List.append_nil]
  have hk:=fun X=>kn3 T A B C X .n U U _ _ _ hA hB hC
  have pX:=hk []
  rw [List.append_nil] at pX
  refine ⟨_,?_,AP.root _ _ t1 t3 ?_ ?_⟩
  ·simp only [PT.cnt,az,List.length_append,List.length_singleton];omega
  ·simp only [cR,lR,aA,List.getD_cons_succ,List.getD_cons_zero]
   simp only [Nat.reduceEqDiff,if_false,if_true]
   exact pX.2.1
  ·simp only [pR,lR,or_true,if_true,aA,List.getD_cons_succ,List.getD_cons_zero]
   rw [(hk [U]).2.1,(hk [U]).2.2,if_pos rfl]
 | @new G p nm rg a U ha hm aM =>
  intro sc T ns bt hE
  simp only [NA,cf,cY,Bool.false_eq_true,if_false] at bt
  obtain ⟨ks,aR,⟨a1,c1,eK,⟨_,rfl⟩,rfl⟩,rfl⟩:=bt
  obtain ⟨A,hA,h1⟩:=aM sc T a1 eK hE
  rw [List.append_nil]
  have hk:=fun X=>jz T A X U _ hA.symm
  have pX:=hk []
  rw [List.append_nil] at pX
  refine ⟨_,?_,AP.root _ _ h1.pl h1.run ?_ ?_⟩
  ·simp only [PT.cnt,az,List.length_append,List.length_singleton];omega
  ·simp only [cR,xI,aA,List.getD_cons_zero]
   simp only [Nat.reduceEqDiff,if_false,if_true]
   exact pX
  ·simp only [pR,xI,aA,List.getD_cons_zero]
   simp only [Nat.reduceEqDiff,or_self,if_false,if_true]
   rw [hk _,hm];rfl
mutual
def PT.kH:PT->List Int
 | .num _ _=>[]
 | .name _ _=>[]
 | .node _ k _ rg kids=>(if k=.new then [aq rg] else [])++lA kids
def lA:List PT->List Int
 | []=>[]
 | t::r=>t.kH++lA r
end
def f12 (n:NR):Bool:=n.form == 12
theorem GF (k:Kw):aY k=12↔k=.new:=by cases k <;> decide
mutual
theorem IQ (NS:List NR):∀ (t:PT) (scope:Sc) (base:Nat) (ns:List NR),NA scope t base ns->(∀ j,j < ns.length->NS[base+j]?=ns[j]?)->((bE NS (opn t base)).filter f12).map (·.region)=t.kH
 | .num p s,scope,base,ns,h,hN=>by
  simp only [NA] at h
  subst h
  have:=hN 0 (by simp)
  simp only [Nat.add_zero] at this
  simp [bE,opn,this,PT.kH,f12]
 | .name p s,scope,base,ns,h,hN=>by
  simp only [NA] at h
  subst h
  have:=hN 0 (by simp)
  simp only [Nat.add_zero] at this
  simp [bE,opn,this,PT.kH,f12]
 | .node p k nm rg kids,scope,base,ns,h,hN=>by
  simp only [NA] at h
  obtain ⟨ks,aR,h1,rfl⟩:=h
  have hl:=h1.len
  have hk:=Ej NS kids scope nm (cf k) base ks h1 (fun j hj=>by rw [hN j (by simp;omega),List.getElem?_append_left hj])
  have hs:=hN ks.length (by simp)
  rw [hl,<- hl,List.getElem?_append_right (Nat.le_refl _)] at hs
  simp only [Nat.sub_self,List.getElem?_cons_zero] at hs
  rw [hl] at hs
  simp only [opn,PT.kH]
  unfold bE at hk ⊢
  rw [List.map_cons,Int.toNat_natCast,hs,Option.getD_some,List.filter_cons]
  by_cases hkp:k=.new
  ·have:aY k=12:=(GF k).2 hkp
   simp only [f12,this,if_pos hkp] at hk ⊢
   simp only [beq_self_eq_true,if_true,List.map_cons,hk];rfl
  ·have:¬ aY k=12:=fun e=>hkp ((GF k).1 e)
   have h12:(aY k == 12)=false:=by rw [beq_eq_false_iff_ne];exact this
   simp only [f12,h12,if_neg hkp] at hk ⊢
   simp only [Bool.false_eq_true,if_false,hk];rfl
theorem Ej (NS:List NR):∀ (ts:List PT) (scope:Sc) (nm:List UInt8) (bs:List Bool) (base:Nat) (ns:List NR),cY scope nm ts bs base ns->(∀ j,j < ns.length->NS[base+j]?=ns[j]?)->((bE NS (mC ts base)).filter f12).map (·.region)=lA ts
 | [],_,_,_,_,_,_,_=>by simp [bE,mC,lA]
 | _::_,_,_,[],_,_,h,_=>by simp [cY] at h
 | t::r,scope,nm,b::bs,base,ns,h,hN=>by
  simp only [cY] at h
  obtain ⟨a,c,h1,h2,rfl⟩:=h
  have hl:=h1.len
  have e1:=IQ NS t _ base a h1 (fun j hj=>by rw [hN j (by simp;omega),List.getElem?_append_left hj])
  have e2:=Ej NS r scope nm bs (base+t.cnt) c h2 (fun j hj=>by
   have:=hN (t.cnt+j) (by simp;omega)
   rw [<- Nat.add_assoc] at this
   rw [this,List.getElem?_append_right (by omega)]
   congr 1;omega)
  unfold bE at e1 e2 ⊢
  simp only [mC,lA,List.map_append,List.filter_append,e1,e2]
end
theorem um:∀ (O acc:List NR),((acc++O.filter f12).map (·.region)).Nodup->dW O acc=(acc++O.filter f12,0,0)
 | [],acc,_=>by simp [dW]
 | n::r,acc,h=>by
  simp only [dW]
  by_cases h12:n.form=12
  ·have hf:f12 n=true:=by simp [f12,h12]
   rw [List.filter_cons,hf,if_pos rfl] at h ⊢
   have hno:(l8 acc n.region).isSome=false:=by
    unfold l8
    rw [Option.isSome_eq_false_iff,Option.isNone_iff_eq_none,List.find?_eq_none]
    intro x hx hc
    rw [List.map_append,List.nodup_append] at h
    exact h.2.2 x.region (List.mem_map.2 ⟨x,hx,rfl⟩) n.region (by simp) (by simpa using hc)
   rw [if_pos h12,if_neg (by rw [hno];decide)]
   have:=um r (acc++[n]) (by rw [List.append_assoc];exact h)
   rw [this,List.append_assoc];rfl
  ·have hf:f12 n=false:=by simp [f12,h12]
   rw [List.filter_cons,hf] at h ⊢
   rw [if_neg h12]
   exact um r acc h
theorem IU (l:List NR):∀ O:List NR,(∀ n∈O,n.form=4->∀ o,l8 l n.region=some o->o.at_<=n.at_/\n.at_ < o.aR)->mE l O=(0,0)
 | [],_=>rfl
 | n::r,h=>by
  have ih:=IU l r (fun m hm=>h m (by simp [hm]))
  simp only [mE]
  split
  ·rename_i h4
   cases e:l8 l n.region with
   | none=>simp only;exact ih
   | some o =>
    have:=h n (by simp) h4 o e
    simp only
    rw [if_neg (by omega)];exact ih
  ·exact ih
mutual
theorem s9:∀ (t:PT) (rs:List Int) (scope:Sc) (base:Nat) (ms:List NR) (lo hi:Nat),cg rs t->NA scope t base ms->dr t ms lo hi->∀ n∈ms,n.form=4->n.region∈rs\/∃ o∈ms,o.form=12/\o.region=n.region/\o.at_<=n.at_/\n.at_ < o.aR
 | .num p s,rs,scope,base,ms,lo,hi,_,h,_,n,hn,h4=>by simp only [NA] at h;subst h;simp only [List.mem_singleton] at hn;subst hn;simp at h4
 | .name p s,rs,scope,base,ms,lo,hi,_,h,_,n,hn,h4=>by simp only [NA] at h;subst h;simp only [List.mem_singleton] at hn;subst hn;simp at h4
 | .node p k nm rg kids,rs,scope,base,ms,lo,hi,hc,h,hp,n,hn,h4=>by
  simp only [NA] at h
  obtain ⟨ks,aR,h1,rfl⟩:=h
  simp only [dr] at hp
  obtain ⟨ks',n0,e0,p1,p2,p3,p4,p5⟩:=hp
  obtain ⟨rfl,e1⟩:=List.append_inj' e0 rfl
  simp only [List.cons.injEq,and_true] at e1
  simp only [cg] at hc
  rcases List.mem_append.1 hn with hn | hn
  ·rcases qC kids _ scope nm (cf k) base ks (p+1) n0.aR hc.2 h1 p3 n hn h4 with hr | ⟨o,ho,h5⟩
   ·by_cases hk:k=.new
    ·rw [if_pos hk] at hr
     rcases List.mem_cons.1 hr with hr | hr
     ·right
      have hin:=p3.Pv n hn
      refine ⟨n0,by rw [e1];simp,?_,?_,by omega,by omega⟩
      ·rw [<- e1];exact (GF k).2 hk
      ·rw [<- e1];exact hr.symm
     ·exact Or.inl hr
    ·rw [if_neg hk] at hr;exact Or.inl hr
   ·exact Or.inr ⟨o,List.mem_append_left _ ho,h5⟩
  ·simp only [List.mem_singleton] at hn
   subst hn
   exact Or.inl (hc.1 ((Iv k).1 h4))
theorem qC:∀ (ts:List PT) (rs:List Int) (scope:Sc) (nm:List UInt8) (bs:List Bool) (base:Nat) (ms:List NR) (lo hi:Nat),cV rs ts->cY scope nm ts bs base ms->bZ ts ms lo hi->∀ n∈ms,n.form=4->n.region∈rs\/∃ o∈ms,o.form=12/\o.region=n.region/\o.at_<=n.at_/\n.at_ < o.aR
 | [],rs,_,_,_,_,ms,lo,hi,_,h,_,n,hn,_=>by simp only [cY] at h;rw [h.2] at hn;simp at hn
 | _::_,_,_,_,[],_,_,_,_,_,h,_,_,_,_=>by simp [cY] at h
 | t::r,rs,scope,nm,b::bs,base,ms,lo,hi,hc,h,hp,n,hn,h4=>by
  simp only [cY] at h
  obtain ⟨a,c,h1,h2,rfl⟩:=h
  simp only [bZ] at hp
  obtain ⟨a',c',mid,e0,p1,p2⟩:=hp
  obtain ⟨rfl,rfl⟩:=List.append_inj e0 (by rw [h1.len,p1.len])
  simp only [cV] at hc
  rcases List.mem_append.1 hn with hn | hn
  ·rcases s9 t rs _ base a lo mid hc.1 h1 p1 n hn h4 with hr | ⟨o,ho,h5⟩
   ·exact Or.inl hr
   ·exact Or.inr ⟨o,List.mem_append_left _ ho,h5⟩
  ·rcases qC r rs scope nm bs (base+t.cnt) c mid hi hc.2 h2 p2 n hn h4 with hr | ⟨o,ho,h5⟩
   ·exact Or.inl hr
   ·exact Or.inr ⟨o,List.mem_append_right _ ho,h5⟩
end
def uo:List Int->Nat->Int->List Int
 | [],_,_=>[]
 | a::l,r,i=>(if a=i then [(r:Int)] else [])++uo l (r+1) i
theorem uq (i:Int) (t:PT):∀ (l:List Int) (r:Nat),(eF l r i t).kH=uo l r i++t.kH
 | [],_=>by simp [eF,uo]
 | a::l,r=>by
  simp only [eF,uo]
  split
  ·simp only [PT.kH,lA,if_true,yj,uq i t l (r+1),List.append_nil,List.append_assoc]
  ·rw [uq i t l (r+1)];rfl
theorem BX (i:Int):∀ (l:List Int) (r:Nat),∀ x∈uo l r i,∃ j:Nat,x=((r+j:Nat):Int)/\l[j]?=some i
 | [],_,x,h=>by simp [uo] at h
 | a::l,r,x,h=>by
  simp only [uo,List.mem_append] at h
  rcases h with h | h
  ·split at h
   ·rename_i e
    simp only [List.mem_singleton] at h
    exact ⟨0,by rw [h];rfl,by simp [e]⟩
   ·simp at h
  ·obtain ⟨j,h1,h2⟩:=BX i l (r+1) x h
   exact ⟨j+1,by rw [h1];congr 1;omega,by simpa using h2⟩
theorem yB (i:Int):∀ (l:List Int) (r:Nat),(uo l r i).Nodup
 | [],_=>by simp [uo]
 | a::l,r=>by
  have ih:=yB i l (r+1)
  simp only [uo]
  split
  ·simp only [List.singleton_append,List.nodup_cons]
   refine ⟨fun h=>?_,ih⟩
   obtain ⟨j,h1,_⟩:=BX i l (r+1) _ h
   omega
  ·simpa using ih
def GG (N:List Int) (lo hi:Nat) (l:List Int):Prop:=∀ x∈l,∃ (r i:Nat),x=(r:Int)/\N[r]?=some (i:Int)/\lo<=i/\i < hi
theorem IV {N:List Int} {a b c d:Nat} {l l':List Int} (h:GG N a b l) (g:GG N c d l') (hn:l.Nodup) (gn:l'.Nodup) (hd:b<=c\/d<=a):(l++l').Nodup:=by
 rw [List.nodup_append]
 refine ⟨hn,gn,fun x hx y hy e=>?_⟩
 subst e
 obtain ⟨r,i,h1,h2,h3,h4⟩:=h x hx
 obtain ⟨r',i',g1,g2,g3,g4⟩:=g x hy
 have:r=r':=by omega
 subst this
 rw [h2] at g2
 simp only [Option.some.injEq] at g2
 omega
theorem Rw (N:List Int) (i:Nat):GG N i (i+1) (uo N 0 (i:Int)):=fun x hx=>by
 obtain ⟨j,h1,h2⟩:=BX _ N 0 x hx
 exact ⟨j,i,by rw [h1,Nat.zero_add],h2,Nat.le_refl _,by omega⟩
theorem GG.mono {N:List Int} {a b c d:Nat} {l:List Int} (h:GG N a b l) (h1:c<=a) (h2:b<=d):GG N c d l:=fun x hx=>by
 obtain ⟨r,i,e1,e2,e3,e4⟩:=h x hx
 exact ⟨r,i,e1,e2,by omega,by omega⟩
mutual
theorem Ov (R N:List Int):∀ (t:PT) (b:Nat),cS t->(t.eU R N b).kH.Nodup/\GG N b (b+t.cnt - 1) (t.eU R N b).kH
 | .num _ _,_,_=>⟨by simp [PT.eU,PT.kH],fun x hx=>by simp [PT.eU,PT.kH] at hx⟩
 | .name _ _,_,_=>⟨by simp [PT.eU,PT.kH],fun x hx=>by simp [PT.eU,PT.kH] at hx⟩
 | .node _ k nm _ kids,b,hn=>by
  cases hn with
  | node hk hn =>
  have:=yC R N kids b hn
  simp only [PT.eU,PT.kH,if_neg hk,List.nil_append,PT.cnt]
  rw [show b+(1+az kids) - 1=b+az kids by omega]
  exact this
theorem yC (R N:List Int):∀ (ts:List PT) (b:Nat),(∀ x∈ts,cS x)->(lA (gD R N ts b)).Nodup/\GG N b (b+az ts) (lA (gD R N ts b))
 | [],_,_=>⟨by simp [gD,lA],fun x hx=>by simp [gD,lA] at hx⟩
 | t::r,b,hn=>by
  obtain ⟨h1,h2⟩:=Ov R N t b (hn t (by simp))
  obtain ⟨g1,g2⟩:=yC R N r (b+t.cnt) (fun x hx=>hn x (by simp [hx]))
  have hc:=cH t
  have Nf:(((b+t.cnt:Nat):Int) - 1)=((b+t.cnt - 1:Nat):Int):=by omega
  have i1:=Rw N (b+t.cnt - 1)
  have n1:(uo N 0 ((b+t.cnt - 1:Nat):Int)++(t.eU R N b).kH).Nodup:=IV i1 h2 (yB _ N 0) h1 (Or.inr (Nat.le_refl _))
  have i2:GG N b (b+t.cnt) (uo N 0 ((b+t.cnt - 1:Nat):Int)++(t.eU R N b).kH):=fun x hx=>by
   rcases List.mem_append.1 hx with hx | hx
   ·exact i1.mono (by omega) (by omega) x hx
   ·exact h2.mono (Nat.le_refl _) (by omega) x hx
  simp only [gD,lA,uq,Nf,az]
  refine ⟨IV i2 g2 n1 g1 (Or.inl (Nat.le_refl _)),fun x hx=>?_⟩
  rcases List.mem_append.1 hx with hx | hx
  ·exact i2.mono (Nat.le_refl _) (by omega) x hx
  ·exact g2.mono (by omega) (by omega) x hx
end
theorem Rx (R N:List Int) (t:PT) (hn:cS t):(t.lay R N 0).kH.Nodup/\GG N 0 (0+az [t]) (t.lay R N 0).kH:=by
 have:=yC R N [t] 0 (by simpa using hn)
 simp only [gD,lA,List.append_nil] at this
 exact this
mutual
theorem Ow:∀ e:PT,e.np.kH=e.kH
 | .num _ _=>rfl
 | .name _ _=>rfl
 | .node _ k nm rg kids=>by simp only [PT.np,PT.kH,IW kids]
theorem IW:∀ l:List PT,lA (eX l)=lA l
 | []=>rfl
 | t::r=>by simp only [eX,lA,Ow t,IW r]
end
mutual
def PT.lift (raw:List Int):PT->jg->PT × jg
 | .num p s,c=>(.num p s,c)
 | .name p s,c=>(.name p s,c)
 | .node p k nm rg kids,c =>
  if k=.new then
   if (aL raw 2 c).1=0 then (.node p k nm rg (gX raw kids (aL raw 2 c).2).1,(gX raw kids (aL raw 2 c).2).2)
   else ((gX raw kids (aL raw 2 c).2).1.headD (.num 0 []),(gX raw kids (aL raw 2 c).2).2)
  else (.node p k nm rg (gX raw kids c).1,(gX raw kids c).2)
def gX (raw:List Int):List PT->jg->List PT × jg
 | [],c=>([],c)
 | t::r,c=>((t.lift raw c).1::(gX raw r (t.lift raw c).2).1,(gX raw r (t.lift raw c).2).2)
end
inductive Lf:List Int->PT->PT->Prop
 | num {p:Nat} {s:List UInt8}:Lf [] (.num p s) (.num p s)
 | name {p:Nat} {s:List UInt8}:Lf [] (.name p s) (.name p s)
 | one {l:List Int} {p:Nat} {k:Kw} {nm rg:List UInt8} {a a':PT} (hk:k=.fst\/k=.snd\/k=.new) (ha:Lf l a a'):Lf l (.node p k nm rg [a]) (.node p k nm rg [a'])
 | two {l1 l2:List Int} {p:Nat} {k:Kw} {nm rg:List UInt8} {a b a' b':PT} (hk:k=.aT\/k=.pair\/k=.add\/k=.sub\/k=.less) (ha:Lf l1 a a') (hb:Lf l2 b b'):Lf (l1++l2) (.node p k nm rg [a,b]) (.node p k nm rg [a',b'])
 | three {l1 l2 l3:List Int} {p:Nat} {k:Kw} {nm rg:List UInt8} {a b c a' b' c':PT} (hk:k=.dQ\/k=.loop) (ha:Lf l1 a a') (hb:Lf l2 b b') (hc:Lf l3 c c'):Lf (l1++(l2++l3)) (.node p k nm rg [a,b,c]) (.node p k nm rg [a',b',c'])
 | lift {l:List Int} {p:Nat} {nm rg:List UInt8} {a a':PT} (ha:Lf l a a'):Lf (aq rg::l) (.node p .new nm rg [a]) a'
theorem Ry (raw:List Int) {G:aQ} {t:PT} {T:Ty} (h:WT G t T):∀ c,∃ l,Lf l t (t.lift raw c).1:=by
 induction h with
 | num=>intro c;exact ⟨_,.num⟩
 | name _=>intro c;exact ⟨_,.name⟩
 | aT _ _ aM bH =>
  intro c
  obtain ⟨l1,h1⟩:=aM c
  obtain ⟨l2,h2⟩:=bH (PT.lift raw _ c).2
  simp only [PT.lift,gX,reduceCtorEq,if_false]
  exact ⟨_,.two (by simp) h1 h2⟩
 | pair _ _ _ aM bH =>
  intro c
  obtain ⟨l1,h1⟩:=aM c
  obtain ⟨l2,h2⟩:=bH (PT.lift raw _ c).2
  simp only [PT.lift,gX,reduceCtorEq,if_false]
  exact ⟨_,.two (by simp) h1 h2⟩
 | fst _ aM =>
  intro c
  obtain ⟨l1,h1⟩:=aM c
  simp only [PT.lift,gX,reduceCtorEq,if_false]
  exact ⟨_,.one (by simp) h1⟩
 | snd _ aM =>
  intro c
  obtain ⟨l1,h1⟩:=aM c
  simp only [PT.lift,gX,reduceCtorEq,if_false]
  exact ⟨_,.one (by simp) h1⟩
 | dQ _ _ _ aM bH gL =>
  intro c
  obtain ⟨l1,h1⟩:=aM c
  obtain ⟨l2,h2⟩:=bH (PT.lift raw _ c).2
  obtain ⟨l3,h3⟩:=gL (PT.lift raw _ (PT.lift raw _ c).2).2
  simp only [PT.lift,gX,reduceCtorEq,if_false]
  exact ⟨_,.three (by simp) h1 h2 h3⟩
 | @two G p k nm rg a b hk _ _ aM bH =>
  intro c
  obtain ⟨l1,h1⟩:=aM c
  obtain ⟨l2,h2⟩:=bH (PT.lift raw _ c).2
  have hn:k≠.new:=by rcases hk with rfl | rfl | rfl <;> decide
  simp only [PT.lift,gX,if_neg hn]
  exact ⟨_,.two (by rcases hk with rfl | rfl | rfl <;> simp) h1 h2⟩
 | loop _ _ _ aM bH gL =>
  intro c
  obtain ⟨l1,h1⟩:=aM c
  obtain ⟨l2,h2⟩:=bH (PT.lift raw _ c).2
  obtain ⟨l3,h3⟩:=gL (PT.lift raw _ (PT.lift raw _ c).2).2
  simp only [PT.lift,gX,reduceCtorEq,if_false]
  exact ⟨_,.three (by simp) h1 h2 h3⟩
 | new _ aM =>
  intro c
  obtain ⟨l1,h1⟩:=aM (aL raw 2 c).2
  simp only [PT.lift,gX,if_true]
  split
  ·exact ⟨_,.one (by simp) h1⟩
  ·exact ⟨_,.lift h1⟩
theorem Lf.count {l:List Int} {t t':PT} (h:Lf l t t'):∀ x,t.kH.count x=l.count x+t'.kH.count x:=by
 induction h with
 | num=>intro x;simp [PT.kH]
 | name=>intro x;simp [PT.kH]
 | one hk _ aM =>
  intro x
  have:=aM x
  simp only [PT.kH,lA,List.append_nil,List.count_append];omega
 | two hk _ _ aM bH =>
  intro x
  have:=aM x
  have:=bH x
  simp only [PT.kH,lA,List.append_nil,List.count_append];omega
 | three hk _ _ _ aM bH gL =>
  intro x
  have:=aM x
  have:=bH x
  have:=gL x
  simp only [PT.kH,lA,List.append_nil,List.count_append];omega
 | lift _ aM =>
  intro x
  have:=aM x
  simp only [PT.kH,lA,if_true,List.append_nil,List.count_append,List.count_cons,List.count_nil] at *;omega
theorem Lf.nd {l:List Int} {t t':PT} (h:Lf l t t') (hn:t.kH.Nodup):t'.kH.Nodup/\(∀ x∈t'.kH,x∈t.kH/\x ∉ l)/\∀ x∈l,x∈t.kH:=by
 have hc:=h.count
 have h1:∀ x,t.kH.count x<=1:=fun x=>List.nodup_iff_count.1 hn x
 refine ⟨List.nodup_iff_count.2 (fun x=>by have:=hc x;have:=h1 x;omega),fun x hx=>?_,fun x hx=>?_⟩
 ·have e:=List.count_pos_iff.2 hx
  have:=hc x
  have:=h1 x
  exact ⟨List.count_pos_iff.1 (by omega),fun hl=>by have:=List.count_pos_iff.2 hl;omega⟩
 ·have e:=List.count_pos_iff.2 hx
  have:=hc x
  exact List.count_pos_iff.1 (by omega)
theorem Lf.same {l:List Int} {t t':PT} (h:Lf l t t'):t'.bK=t.bK/\t'.lO=t.lO/\(t.np=t->t'.np=t')/\t'.tidy.length<=t.tidy.length:=by
 induction h with
 | num=>exact ⟨rfl,rfl,fun h=>h,Nat.le_refl _⟩
 | name=>exact ⟨rfl,rfl,fun h=>h,Nat.le_refl _⟩
 | one hk _ aM =>
  obtain ⟨a1,a2,a3,a4⟩:=aM
  refine ⟨by simp only [PT.bK,iX,a1],by simp only [PT.lO,ig,a2],fun hn=>?_,?_⟩
  ·simp only [PT.np,eX,PT.node.injEq,List.cons.injEq,and_true,true_and] at hn ⊢
   exact ⟨hn.1,a3 hn.2⟩
  ·simp only [PT.tidy,ct,bn,bP,List.length_cons,List.length_append,List.length_nil];omega
 | two hk _ _ aM bH =>
  obtain ⟨a1,a2,a3,a4⟩:=aM
  obtain ⟨b1,b2,b3,b4⟩:=bH
  refine ⟨by simp only [PT.bK,iX,a1,b1],by simp only [PT.lO,ig,a2,b2],fun hn=>?_,?_⟩
  ·simp only [PT.np,eX,PT.node.injEq,List.cons.injEq,and_true,true_and] at hn ⊢
   exact ⟨hn.1,a3 hn.2.1,b3 hn.2.2⟩
  ·simp only [PT.tidy,ct,bn,bP,List.length_cons,List.length_append,List.length_nil];omega
 | three hk _ _ _ aM bH gL =>
  obtain ⟨a1,a2,a3,a4⟩:=aM
  obtain ⟨b1,b2,b3,b4⟩:=bH
  obtain ⟨c1,c2,c3,c4⟩:=gL
  refine ⟨by simp only [PT.bK,iX,a1,b1,c1],by simp only [PT.lO,ig,a2,b2,c2],fun hn=>?_,?_⟩
  ·simp only [PT.np,eX,PT.node.injEq,List.cons.injEq,and_true,true_and] at hn ⊢
   exact ⟨hn.1,a3 hn.2.1,b3 hn.2.2.1,c3 hn.2.2.2⟩
  ·simp only [PT.tidy,ct,bn,bP,List.length_cons,List.length_append,List.length_nil];omega
 | lift _ aM =>
  obtain ⟨a1,a2,a3,a4⟩:=aM
  refine ⟨by simp only [PT.bK,iX,a1,reduceCtorEq,if_false];omega,by simp only [PT.lO,ig,a2,if_true,List.headD_cons],fun hn=>?_,?_⟩
  ·simp only [PT.np,eX,PT.node.injEq,List.cons.injEq,and_true,true_and] at hn
   exact a3 hn.2
  ·simp only [PT.tidy,ct,bn,bP,List.length_cons,List.length_append,List.length_nil];omega
theorem Lf.ok {l:List Int} {t t':PT} {b:Bool} (h:Lf l t t') (hk:t.ok b):t'.ok b:=by
 induction h with
 | num=>exact hk
 | name=>exact hk
 | one _ _ aM =>
  simp only [PT.ok,qx,and_true] at hk ⊢
  exact ⟨hk.1,hk.2.1,hk.2.2.1,hk.2.2.2.1,aM hk.2.2.2.2⟩
 | two _ _ _ aM bH =>
  simp only [PT.ok,qx,and_true] at hk ⊢
  exact ⟨hk.1,hk.2.1,hk.2.2.1,hk.2.2.2.1,aM hk.2.2.2.2.1,bH hk.2.2.2.2.2⟩
 | three _ _ _ _ aM bH gL =>
  simp only [PT.ok,qx,and_true] at hk ⊢
  exact ⟨hk.1,hk.2.1,hk.2.2.1,hk.2.2.2.1,aM hk.2.2.2.2.1,bH hk.2.2.2.2.2.1,gL hk.2.2.2.2.2.2⟩
 | lift _ aM =>
  simp only [PT.ok,qx,and_true] at hk
  exact aM hk.2.2.2.2
theorem Lf.wtr {l:List Int} {t t':PT} (h:Lf l t t'):∀ {G:aQ} {T:Ty},mw G t T->mw G t' T:=by
 induction h with
 | num=>intro G T hw;exact hw
 | name=>intro G T hw;exact hw
 | one _ _ aM =>
  intro G T hw
  cases hw with
  | fst h=>exact .fst (aM h)
  | snd h=>exact .snd (aM h)
  | new h hm=>exact .new (aM h) hm
 | two _ _ _ aM bH =>
  intro G T hw
  cases hw with
  | aT h1 h2=>exact .aT (aM h1) (bH h2)
  | pair hr h1 h2=>exact .pair hr (aM h1) (bH h2)
  | two hk h1 h2=>exact .two hk (aM h1) (bH h2)
 | three _ _ _ _ aM bH gL =>
  intro G T hw
  cases hw with
  | dQ h1 h2 h3=>exact .dQ (aM h1) (bH h2) (gL h3)
  | loop h1 h2 h3=>exact .loop (aM h1) (bH h2) (gL h3)
 | lift _ aM =>
  intro G T hw
  cases hw with
  | new h hm=>exact aM h
theorem Lf.closed {l:List Int} {t t':PT} (h:Lf l t t'):∀ {rs rs':List Int},cg rs t->(∀ x∈rs,x∈rs')->(∀ x∈l,x∈rs')->cg rs' t':=by
 induction h with
 | num=>intro rs rs' _ _ _;simp [cg]
 | name=>intro rs rs' _ _ _;simp [cg]
 | one _ _ aM =>
  intro rs rs' hc h1 h2
  simp only [cg,cV,and_true] at hc ⊢
  refine ⟨fun e=>h1 _ (hc.1 e),aM hc.2 (fun x hx=>?_) (fun x hx=>?_)⟩
  ·split
   ·rename_i e
    rw [if_pos e] at hx
    rcases List.mem_cons.1 hx with hx | hx
    ·simp [hx]
    ·simp [h1 x hx]
   ·rename_i e
    rw [if_neg e] at hx
    exact h1 x hx
  ·split
   ·simp [h2 x hx]
   ·exact h2 x hx
 | two hk _ _ aM bH =>
  intro rs rs' hc h1 h2
  have hn:∀ k:Kw,k=.aT\/k=.pair\/k=.add\/k=.sub\/k=.less->k≠.new:=by intro k h;rcases h with rfl | rfl | rfl | rfl | rfl <;> decide
  simp only [cg,cV,and_true,if_neg (hn _ hk)] at hc ⊢
  exact ⟨fun e=>h1 _ (hc.1 e),aM hc.2.1 h1 (fun x hx=>h2 x (by simp [hx])),bH hc.2.2 h1 (fun x hx=>h2 x (by simp [hx]))⟩
 | three hk _ _ _ aM bH gL =>
  intro rs rs' hc h1 h2
  have hn:∀ k:Kw,k=.dQ\/k=.loop->k≠.new:=by intro k h;rcases h with rfl | rfl <;> decide
  simp only [cg,cV,and_true,if_neg (hn _ hk)] at hc ⊢
  exact ⟨fun e=>h1 _ (hc.1 e),aM hc.2.1 h1 (fun x hx=>h2 x (by simp [hx])),bH hc.2.2.1 h1 (fun x hx=>h2 x (by simp [hx])),gL hc.2.2.2 h1 (fun x hx=>h2 x (by simp [hx]))⟩
 | lift _ aM =>
  intro rs rs' hc h1 h2
  simp only [cg,cV,and_true,if_true] at hc
  refine aM hc.2 (fun x hx=>?_) (fun x hx=>h2 x (by simp [hx]))
  rcases List.mem_cons.1 hx with hx | hx
  ·exact h2 x (by simp [hx])
  ·exact h1 x hx
theorem Lf.cm {NP NQ:List Int} {l:List Int} {t t':PT} (h:Lf l t t'):∀ {G:aQ} {T:Ty},WT G t T->∀ (rp rq rs:List Int),cg rs t->(∀ x∈rs,x∈rp\/x∈NP)->t.kH.Nodup->(∀ x∈t.kH,x ∉ rp/\x ∉ NP)->(∀ x,x∈rp\/x∈NP->x∈rq\/x∈NQ)->(∀ x∈l,x∈NQ)->(∀ x∈t'.kH,x ∉ rq/\x ∉ NQ)->Cm id NP NQ rp rq t t':=by
 induction h with
 | num=>intros;exact .num rfl
 | name=>intros;exact .name
 | @one l p k nm rg a a' hk ha aM =>
  intro G T hw rp rq rs hc qd hnd hP hQ hl hq
  simp only [cg,cV,and_true] at hc
  simp only [PT.kH,lA,List.append_nil] at hnd hP hq
  cases hw with
  | fst wa=>exact .fst (aM wa rp rq rs hc.2 qd (by simpa using hnd) (by simpa using hP) hQ hl (by simpa using hq))
  | snd wa=>exact .snd (aM wa rp rq rs hc.2 qd (by simpa using hnd) (by simpa using hP) hQ hl (by simpa using hq))
  | new wa =>
   simp only [if_true,List.singleton_append,List.nodup_cons,List.mem_cons] at hc hnd hP hq
   have p0:=hP _ (Or.inl rfl)
   have q0:=hq _ (Or.inl rfl)
   refine .Rv q0.1 q0.2 (fun x hx e=>?_) (.Oo p0.1 p0.2 (aM wa _ _ _ hc.2 (fun x hx=>?_) hnd.2 (fun x hx=>?_) (fun x hx=>?_) hl (fun x hx=>?_)))
   ·simp only [id] at e
    subst e
    rcases hx with hx | hx
    ·exact p0.1 hx
    ·exact p0.2 hx
   ·rcases List.mem_cons.1 hx with hx | hx
    ·simp [hx]
    ·rcases qd x hx with h | h
     ·simp [h]
     ·exact Or.inr h
   ·have:=hP x (Or.inr hx)
    refine ⟨fun hm=>?_,this.2⟩
    rcases List.mem_append.1 hm with hm | hm
    ·exact this.1 hm
    ·simp only [List.mem_singleton] at hm
     exact hnd.1 (hm ▸ hx)
   ·rcases hx with hx | hx
    ·rcases List.mem_append.1 hx with hx | hx
     ·rcases hQ x (Or.inl hx) with h | h
      ·simp [h]
      ·exact Or.inr h
     ·exact Or.inl (by simp at hx;simp [hx])
    ·rcases hQ x (Or.inr hx) with h | h
     ·simp [h]
     ·exact Or.inr h
   ·have:=hq x (Or.inr hx)
    refine ⟨fun hm=>?_,this.2⟩
    rcases List.mem_append.1 hm with hm | hm
    ·exact this.1 hm
    ·simp only [List.mem_singleton] at hm
     exact hnd.1 (hm ▸ (ha.nd hnd.2).2.1 x hx |>.1)
 | @two l1 l2 p k nm rg a b a' b' hk ha hb aM bH =>
  intro G T hw rp rq rs hc qd hnd hP hQ hl hq
  have hn:k≠.new:=by rcases hk with rfl | rfl | rfl | rfl | rfl <;> decide
  simp only [cg,cV,and_true,if_neg hn] at hc
  simp only [PT.kH,lA,List.append_nil,if_neg hn,List.nil_append,List.nodup_append,List.mem_append] at hnd hP hq hl
  have ka:∀ {G T},WT G a T->Cm id NP NQ rp rq a a':=fun wa=>aM wa rp rq rs hc.2.1 qd hnd.1 (fun x hx=>hP x (Or.inl hx)) hQ (fun x hx=>hl x (Or.inl hx)) (fun x hx=>hq x (Or.inl hx))
  have kb:∀ {G T},WT G b T->Cm id NP NQ rp rq b b':=fun wb=>bH wb rp rq rs hc.2.2 qd hnd.2.1 (fun x hx=>hP x (Or.inr hx)) hQ (fun x hx=>hl x (Or.inr hx)) (fun x hx=>hq x (Or.inr hx))
  cases hw with
  | aT wa wb=>exact .aT (ka wa) (kb wb)
  | pair wa wb hs=>exact .pair (qd _ (hc.1 rfl)) (hQ _ (qd _ (hc.1 rfl))) rfl (ka wa) (kb wb)
  | two hk wa wb=>exact .two hk (ka wa) (kb wb)
 | @three l1 l2 l3 p k nm rg a b c a' b' c' hk ha hb hc' aM bH gL =>
  intro G T hw rp rq rs hc qd hnd hP hQ hl hq
  have hn:k≠.new:=by rcases hk with rfl | rfl <;> decide
  simp only [cg,cV,and_true,if_neg hn] at hc
  simp only [PT.kH,lA,List.append_nil,if_neg hn,List.nil_append,List.nodup_append,List.mem_append] at hnd hP hq hl
  have ka:∀ {G T},WT G a T->Cm id NP NQ rp rq a a':=fun wa=>aM wa rp rq rs hc.2.1 qd hnd.1 (fun x hx=>hP x (Or.inl hx)) hQ (fun x hx=>hl x (Or.inl hx)) (fun x hx=>hq x (Or.inl hx))
  have kb:∀ {G T},WT G b T->Cm id NP NQ rp rq b b':=fun wb=>bH wb rp rq rs hc.2.2.1 qd hnd.2.1.1 (fun x hx=>hP x (Or.inr (Or.inl hx))) hQ (fun x hx=>hl x (Or.inr (Or.inl hx))) (fun x hx=>hq x (Or.inr (Or.inl hx)))
  have kc:∀ {G T},WT G c T->Cm id NP NQ rp rq c c':=fun wb=>gL wb rp rq rs hc.2.2.2 qd hnd.2.1.2.1 (fun x hx=>hP x (Or.inr (Or.inr hx))) hQ (fun x hx=>hl x (Or.inr (Or.inr hx))) (fun x hx=>hq x (Or.inr (Or.inr hx)))
  cases hw with
  | dQ wa wb wc=>exact .dQ (ka wa) (kb wb) (kc wc)
  | loop wa wb wc=>exact .loop (ka wa) (kb wb) (kc wc)
 | @lift l p nm rg a a' ha aM =>
  intro G T hw rp rq rs hc qd hnd hP hQ hl hq
  simp only [cg,cV,and_true,if_true] at hc
  simp only [PT.kH,lA,List.append_nil,if_true,List.singleton_append,List.nodup_cons,List.mem_cons] at hnd hP
  have p0:=hP _ (Or.inl rfl)
  cases hw with
  | new wa =>
   refine .Oo p0.1 p0.2 (aM wa _ _ _ hc.2 (fun x hx=>?_) hnd.2 (fun x hx=>?_) (fun x hx=>?_) (fun x hx=>hl x (by simp [hx])) hq)
   ·rcases List.mem_cons.1 hx with hx | hx
    ·simp [hx]
    ·rcases qd x hx with h | h
     ·simp [h]
     ·exact Or.inr h
   ·have:=hP x (Or.inr hx)
    refine ⟨fun hm=>?_,this.2⟩
    rcases List.mem_append.1 hm with hm | hm
    ·exact this.1 hm
    ·simp only [List.mem_singleton] at hm
     exact hnd.1 (hm ▸ hx)
   ·rcases hx with hx | hx
    ·rcases List.mem_append.1 hx with hx | hx
     ·exact hQ x (Or.inl hx)
     ·simp only [List.mem_singleton] at hx
      exact Or.inr (hl x (by simp [hx]))
    ·exact hQ x (Or.inr hx)
end Go.Proofs.YtpicaknklgccoabGreatDoor
