import Derived.Test.YtpicaknklgccoabGreatDoorV36
set_option maxHeartbeats 2000000
set_option maxRecDepth 100000
namespace Go.Proofs.YtpicaknklgccoabGreatDoor
theorem rA (E fs:List Nat) (ns:List NR) (i:Nat) (n:NR) (h:ns[i]?=some n):jW (eJ E fs ns) i=if n.form=4 then gW fs (aX E n.at_) else -1:=by
 unfold jW eJ;rw[List.getElem?_map,h];rfl
def j9 (E fs:List Nat) (ns:List NR):List NR:=ns.map (λn=>fo n (if n.form=4 then gW fs (aX E n.at_) else -1))
theorem BL (T:List Ty) (rg a b:Nat):∀ (l:List NR) (k i:Nat),ew T rg a b l k=(i:Int)->(ai T i).has rg=false
 | [],_,i,h=>by simp only[ew] at h;omega
 | n::r,k,i,h=>by
  simp only[ew] at h
  split at h
  ·rename_i hc
   have:k=i:=by omega
   rw[<- this];exact hc.2.2
  ·exact BL T rg a b r (k+1) i h
mutual
theorem NA.src:∀ {scope:Sc} {t:PT} {base:Nat} {ns:List NR},NA scope t base ns->(∀ x∈scope,x.2<(base:Int))->∀ (j:Nat) (n:NR),ns[j]?=some n->n.source<((base+j:Nat):Int)
 | _,.num p s,base,ns,h,_,j,n,hn=>by
  simp only[NA] at h;subst h
  have hj:j=0:=by have:=(List.getElem?_eq_some_iff.1 hn).1;simp at this;omega
  subst hj;simp only[List.getElem?_cons_zero,Option.some.injEq] at hn;subst hn;simp only;omega
 | scope,.name p s,base,ns,h,hs,j,n,hn=>by
  simp only[NA] at h;subst h
  have hj:j=0:=by have:=(List.getElem?_eq_some_iff.1 hn).1;simp at this;omega
  subst hj;simp only[List.getElem?_cons_zero,Option.some.injEq] at hn;subst hn;simp only[Nat.add_zero];unfold cE
  split
  ·rename_i x hx
   exact hs x (by have:=List.mem_of_find?_eq_some hx;simpa using this)
  ·omega
 | scope,.node p k nm rg kids,base,ns,h,hs,j,n,hn=>by
  simp only[NA] at h;obtain⟨ks,aL,h1,rfl⟩:=h
  by_cases hj:j<ks.length
  ·rw[List.getElem?_append_left hj] at hn
   exact cK.src h1 hs j n hn
  ·have Gf:j=ks.length:=by have:=(List.getElem?_eq_some_iff.1 hn).1;simp at this;omega
   rw[List.getElem?_append_right (by omega),Gf,Nat.sub_self] at hn;simp only[List.getElem?_cons_zero,Option.some.injEq] at hn;subst hn;simp only;omega
theorem cK.src:∀ {scope:Sc} {nm:List UInt8} {ts:List PT} {bs:List Bool} {base:Nat} {ns:List NR},cK scope nm ts bs base ns->(∀ x∈scope,x.2<(base:Int))->∀ (j:Nat) (n:NR),ns[j]?=some n->n.source<((base+j:Nat):Int)
 | _,_,[],_,_,_,h,_,j,n,hn=>by simp only[cK] at h;rw[h.2] at hn;simp at hn
 | _,_,_::_,[],_,_,h,_,_,_,_=>by simp[cK] at h
 | scope,nm,t::r,b::bs,base,ns,h,hs,j,n,hn=>by
  simp only[cK] at h;obtain⟨a,c,h1,h2,rfl⟩:=h;have hl:=NA.len h1
  by_cases hj:j<a.length
  ·rw[List.getElem?_append_left hj] at hn
   refine NA.src h1 (λx hx=>?_) j n hn
   cases b with
   | false=>exact hs x (by simpa using hx)
   | true =>
    simp only[if_true,List.mem_append,List.mem_singleton] at hx
    rcases hx with hx | hx
    ·exact hs x hx
    ·rw[hx];simp only;omega
  ·rw[List.getElem?_append_right (by omega)] at hn
   have:=cK.src h2 (λx hx=>by have:=hs x hx;omega) (j-a.length) n hn;rw[hl] at this hj;rw[show base+t.cnt+(j-t.cnt)=base+j from by omega] at this;exact this
end
theorem C6 {t:PT} {ns:List NR} (h:NA [] t 0 ns) (i:Nat) (n:NR) (hn:ns[i]?=some n):jw i n:=by
 have h1:=h.back i n hn;have h2:=h.src (λx hx=>by simp at hx) i n hn;rw[Nat.zero_add] at h1 h2;exact⟨h1.1,h1.2.1,h1.2.2,h2⟩
mutual
theorem C8:∀ (t:PT) (base i:Nat),base<=i->i<base+t.cnt->(i:Int)∈opn t base
 | .num _ _,base,i,h1,h2=>by simp only[PT.cnt] at h2;simp only[opn,List.mem_singleton];omega
 | .name _ _,base,i,h1,h2=>by simp only[PT.cnt] at h2;simp only[opn,List.mem_singleton];omega
 | .node _ _ _ _ kids,base,i,h1,h2=>by
  simp only[PT.cnt] at h2;simp only[opn,List.mem_cons]
  by_cases h:i=base+ax kids
  ·exact Or.inl (by rw[h])
  ·exact Or.inr (Fp kids base i h1 (by omega))
theorem Fp:∀ (ts:List PT) (base i:Nat),base<=i->i<base+ax ts->(i:Int)∈jS ts base
 | [],base,i,h1,h2=>by simp only[ax] at h2;omega
 | t::r,base,i,h1,h2=>by
  simp only[ax] at h2;simp only[jS,List.mem_append]
  by_cases h:i<base+t.cnt
  ·exact Or.inl (C8 t base i h1 h)
  ·exact Or.inr (Fp r (base+t.cnt) i (by omega) (by omega))
end
def rP (P:Nat->Prop) (t:Ty):Prop:=∀ r∈t.u7,P r
theorem rP.p {P:Nat->Prop} {r:Nat} {a b:Ty} (h:rP P (.p r a b)):P r/\rP P a/\rP P b :=
 ⟨h r (by simp[Ty.u7]),λx hx=>h x (by simp[Ty.u7,hx]),λx hx=>h x (by simp[Ty.u7,hx])⟩
def wy (P:Nat->Prop) (E:List Nat):Prop:=∀ i,P i->P (aX E i)
theorem LY {P:Nat->Prop} {E:List Nat} (hP:∀ i,P i->i<E.length) (h:wy P E) (x y:Nat) (hx:P x) (hy:P y):wy P (je E x y):=λi hi=>by
 rw[nA E x y (hP x hx) (hP y hy)];unfold I6
 split
 ·have h1:=h x hx
  have h2:=h y hy
  rcases Nat.le_total (aX E x) (aX E y) with e | e
  ·rw[Nat.min_eq_left e];exact h1
  ·rw[Nat.min_eq_right e];exact h2
 ·exact h i hi
theorem th {P:Nat->Prop}:∀ (a b:Ty) (E:List Nat),(∀ i,P i->i<E.length)->wy P E->rP P a->rP P b->wy P (cI E a b)
 | .n,_,_,_,h,_,_=>by simp only[cI];exact h
 | .p _ _ _,.n,_,_,h,_,_=>by simp only[cI];exact h
 | .p r a b,.p s c d,E,hP,h,h1,h2=>by
  simp only[cI]
  split
  ·exact h
  ·obtain⟨r1,r2,r3⟩:=h1.p
   obtain⟨s1,s2,s3⟩:=h2.p;refine th b d _ (by rw[bY,dB];exact hP) (th a c _ (by rw[dB];exact hP) (LY hP h r s r1 s1) r2 s2) r3 s3
theorem ke {P:Nat->Prop} {T:List Ty} (h:∀ t∈T,rP P t) (i:Int):rP P (ai T i):=by
 unfold ai
 split
 ·cases e:T[i.toNat]? with
  | none=>intro r hr;simp[Ty.u7] at hr
  | some t=>exact h t (List.mem_of_getElem? e)
 ·intro r hr;simp[Ty.u7] at hr
theorem Fq {P:Nat->Prop} {T:List Ty} (h:∀ t∈T,rP P t) (m:NR) (hm:m.form=4->P m.region.toNat):rP P (cH T m):=by
 have h0:=ke h m.p0;have h1:=ke h m.p1;have h2:=ke h m.source
 have hn:rP P .n:=λr hr=>by simp[Ty.u7] at hr
 unfold cH
 split
 ·exact h2
 split
 ·exact h0
 split
 ·exact h1
 split
 ·exact h1
 split
 ·exact h1
 split
 ·rename_i h4
  intro r hr;simp only[Ty.u7,List.mem_cons,List.mem_append] at hr
  rcases hr with hr | hr | hr
  ·rw[hr];exact hm h4
  ·exact h0 r hr
  ·exact h1 r hr
 split
 ·cases e:ai T m.p0 with
  | n=>exact hn
  | p r a b=>rw[e] at h0;exact h0.p.2.1
 split
 ·cases e:ai T m.p0 with
  | n=>exact hn
  | p r a b=>rw[e] at h0;exact h0.p.2.2
 ·exact hn
theorem uE {P:Nat->Prop}:∀ (ns:List NR) (T:List Ty) (E:List Nat),(∀ i,P i->i<E.length)->wy P E->(∀ t∈T,rP P t)->(∀ n∈ns,n.form=4->P n.at_)->wy P (sH T E ns)
 | [],_,_,_,h,_,_=>h
 | n::r,T,E,hP,h,hT,hn=>by
  have hb:∀ t∈T++[cH T (atR n)],rP P t:=λt ht=>by
   rcases List.mem_append.1 ht with ht | ht
   ·exact hT t ht
   ·simp only[List.mem_singleton] at ht;subst ht;exact Fq hT _ (λh4=>by simpa [atR] using hn n (by simp) h4)
  simp only[sH]
  split
  ·exact uE r _ _ (by rw[bY];exact hP) (th _ _ E hP h (ke hb _) (ke hb _)) hb (λm hm=>hn m (by simp[hm]))
  ·exact uE r _ _ hP h hb (λm hm=>hn m (by simp[hm]))
theorem vJ (B i:Nat):aX (List.range B) i=i:=by
 rw[gZ]
 cases h:(List.range B)[i]? with
 | none=>rfl
 | some x =>
  have:=List.getElem?_eq_some_iff.1 h;obtain⟨_,h2⟩:=this;simp only[List.getElem_range] at h2;simp only;rw[if_neg (by omega)]
theorem Fs {row:List Nat} {x:Nat} (h:x∈row):∃ i:Nat,gW row x=(i:Int)/\i<row.length:=by
 unfold gW
 cases e:row.findIdx? (·==x) with
 | some i=>exact⟨i,rfl,(List.findIdx?_eq_some_iff_getElem.1 e).1⟩
 | none =>
  rw[List.findIdx?_eq_none_iff] at e;have:=e x h;simp at this
theorem J6 {e:PT} {ns:List NR} (h:NA [] e 0 ns) (n:NR) (hn:n∈ns):n∈bw ns (opn e 0):=by
 obtain⟨i,hi⟩:=List.getElem?_of_mem hn;have mG:=(List.getElem?_eq_some_iff.1 hi).1;have:=C8 e 0 i (Nat.zero_le _) (by have:=h.len;omega);unfold bw;rw[List.mem_map];exact⟨(i:Int),this,by rw[Int.toNat_natCast,hi];rfl⟩
theorem Sv {e:PT} {U:Ty} {ns:List NR} {n0:NR} (ux:WT [] e U) (_hnn:dC e) (aO:NA [] e 0 ns) (hat:∀ n∈ns,n.at_<n0.aL) (hfs:(bf (sH [] (List.range n0.aL) ns) (bw ns (opn e 0))).length<=1000) :
  CV (eJ (sH [] (List.range n0.aL) ns) (bf (sH [] (List.range n0.aL) ns) (bw ns (opn e 0))) ns)
   (iB (aU [] (j9 (sH [] (List.range n0.aL) ns) (bf (sH [] (List.range n0.aL) ns) (bw ns (opn e 0))) ns)) ns n0 (bf (sH [] (List.range n0.aL) ns) (bw ns (opn e 0))).length)
   ns (aU [] (j9 (sH [] (List.range n0.aL) ns) (bf (sH [] (List.range n0.aL) ns) (bw ns (opn e 0))) ns))/\ij [] (ns.map atR)/\ij [] (j9 (sH [] (List.range n0.aL) ns) (bf (sH [] (List.range n0.aL) ns) (bw ns (opn e 0))) ns):=by
 have hbk:=λi n hn=>C6 aO i n hn
 have hb1:∀ (i:Nat) n,(ns.map atR)[i]?=some n->jw (([]:List Ty).length+i) n:=λi n hn=>by
  rw[List.getElem?_map] at hn;obtain⟨m,hm,rfl⟩:=Option.map_eq_some_iff.1 hn
  simpa [jw,atR] using hbk i m hm
 have aaq:∀ i n,ns[i]?=some n->ai (aU [] (ns.map atR)) (i:Nat)=cH (aU [] (ns.map atR)) (fo n (((ns[i]?).map (λm=>(m.at_:Int))).getD 0)):=λi n hn=>by
  have:=uB (ns.map atR) [] hb1 i (atR n) (by rw[List.getElem?_map,hn];rfl);rw[List.length_nil,Nat.zero_add] at this;rw[this,hn];rfl
 obtain⟨_,LZ⟩:=zK (ρ:=λi=>((ns[i]?).map (λm=>(m.at_:Int))).getD 0) aaq ux [] 0 [] ns [] aO (by simp) rfl (λs U h=>by simp[look] at h);rw[Nat.zero_add,<- aO.len] at LZ
 have Sr:u9 [] (ns.map atR):=BJ _ _ hb1 (λi n hn hf=>by
  rw[List.getElem?_map] at hn;obtain⟨m,hm,rfl⟩:=Option.map_eq_some_iff.1 hn
  exact (LZ i m (Nat.zero_le _) (List.getElem?_eq_some_iff.1 hm).1 hm).1 hf)
 have Ha:ij [] (ns.map atR):=CY _ _ hb1 (λi n hn hf=>by
  rw[List.getElem?_map] at hn;obtain⟨m,hm,rfl⟩:=Option.map_eq_some_iff.1 hn
  exact (LZ i m (Nat.zero_le _) (List.getElem?_eq_some_iff.1 hm).1 hm).2 hf)
 have hone:=Cn ns [] (List.range n0.aL) (λt h=>by simp at h) (by rw[List.length_range];exact hat) Sr
 have hkeep:wy (λx=>∃ n∈ns,n.form=4/\n.at_=x) (sH [] (List.range n0.aL) ns) :=
  uE ns [] (List.range n0.aL) (λi ⟨n,hn,_,he⟩=>by rw[List.length_range,<- he];exact hat n hn) (λi hi=>by rw[vJ];exact hi) (λt h=>by simp at h) (λn hn h4=>⟨n,hn,h4,rfl⟩)
 generalize sH [] (List.range n0.aL) ns=E at *
 have hmem:∀ n∈ns,n.form=4->aX E n.at_∈bf E (bw ns (opn e 0)):=λn hn h4=>by
  obtain⟨m,hm,m4,Wx⟩:=hkeep n.at_ ⟨n,hn,h4,rfl⟩;unfold bf;rw[List.mem_map];refine⟨m,List.mem_filter.2 ⟨J6 aO m hm,?_⟩,Wx⟩;rw[Wx,nu];simp[m4]
 generalize bf E (bw ns (opn e 0))=fs at *
 obtain⟨f,hf⟩:∃ f:Nat->Nat,f=λx=>(gW fs (aX E x)).toNat:=⟨_,rfl⟩
 have rM:∀ (l:List NR) (T:List Ty),aU (T.map (cC f)) (j9 E fs l)=(aU T (l.map atR)).map (cC f):=λl=>by
  induction l with
  | nil=>intro T;simp[j9,aU]
  | cons n r ih =>
   intro T
   have e1:cH (T.map (cC f)) (fo n (if n.form=4 then gW fs (aX E n.at_) else -1))=cC f (cH T (atR n)):=Jh f T (atR n) _ rfl (λh4=>by
    have h4':n.form=4:=h4
    simp only[fo,atR,if_pos h4',Int.toNat_natCast];rw[hf])
   have WU:=ih (T++[cH T (atR n)]);rw[List.map_append,List.map_singleton,<- e1] at WU;simp only[j9,List.map_cons,aU] at WU ⊢;exact WU
 have L0:=rM ns [];rw[List.map_nil] at L0
 have hb2:∀ (i:Nat) n,(j9 E fs ns)[i]?=some n->jw (([]:List Ty).length+i) n:=λi n hn=>by
  unfold j9 at hn;rw[List.getElem?_map] at hn;obtain⟨m,hm,rfl⟩:=Option.map_eq_some_iff.1 hn
  simpa [jw,fo] using hbk i m hm
 have jN:QI (eJ E fs ns) ns:=λi n hn=>by
  rw[rA E fs ns i n hn];refine⟨λh4=>?_,λh4=>by rw[if_neg h4]⟩;obtain⟨j,hj,hjl⟩:=Fs (hmem n (List.mem_of_getElem? hn) h4);rw[if_pos h4,hj];omega
 have Up:∀ i n,ns[i]?=some n->ai (aU [] (j9 E fs ns)) (i:Nat)=cH (aU [] (j9 E fs ns)) (fo n (jW (eJ E fs ns) i)):=λi n hn=>by
  have:=uB (j9 E fs ns) [] hb2 i (fo n (if n.form=4 then gW fs (aX E n.at_) else -1)) (by unfold j9;rw[List.getElem?_map,hn];rfl);rw[List.length_nil,Nat.zero_add] at this;rw[this,rA E fs ns i n hn]
 refine⟨⟨Up,jN,λi n hn hfm=>?_,λr i hr=>?_⟩,Ha,?_⟩
 ·have h1:=J5 (aX E) (ns.map atR) [] hb1 hone i (atR n) (by rw[List.getElem?_map,hn];rfl) hfm
  rw[L0,iJ,iJ]
  have hc:gT (aX E) f:=λa b hab=>by rw[hf];simp only[hab]
  exact hc.map _ _ h1
 ·unfold iB at hr
  rw[List.getElem?_map] at hr;obtain⟨k,hk,hkr⟩:=Option.map_eq_some_iff.1 hr
  have:k=r:=by
   have:=(List.getElem?_eq_some_iff.1 hk).2
   simpa using this.symm
  subst this;exact BL _ _ _ _ _ _ _ hkr
 ·obtain⟨_,Uq⟩:=zK (ρ:=λi=>jW (eJ E fs ns) i) Up ux [] 0 [] ns [] aO (by simp) rfl (λs U h=>by simp[look] at h)
  rw[Nat.zero_add,<- aO.len] at Uq
  exact CY _ _ hb2 (λi n hn dE=>by
   unfold j9 at hn;rw[List.getElem?_map] at hn;obtain⟨m,hm,rfl⟩:=Option.map_eq_some_iff.1 hn
   exact (Uq i m (Nat.zero_le _) (List.getElem?_eq_some_iff.1 hm).1 hm).2 dE)
theorem join_min {q:Nat->Nat} {E:List Nat} (h:∀ x,q (aX E x)=q x) {r s:Nat} (hr:r<E.length) (hs:s<E.length) (e:q r=q s):∀ x,q (aX (je E r s) x)=q x:=λx=>by
 rw[nA E r s hr hs];unfold I6
 have nj:q (aX E r)=q (aX E s):=by rw[h,h];exact e
 have hmm:q (min (aX E r) (aX E s))=q (max (aX E r) (aX E s)):=by
  by_cases c:aX E r<=aX E s
  ·rw[Nat.min_eq_left c,Nat.max_eq_right c];exact nj
  ·have c':aX E s<=aX E r:=by omega
   rw[Nat.min_eq_right c',Nat.max_eq_left c'];exact nj.symm
 split
 ·rename_i hx
  rw[hmm,<- hx];exact h x
 ·exact h x
theorem vK {q:Nat->Nat}:∀ (a b:Ty) (E:List Nat),(∀ x,q (aX E x)=q x)->mB E.length a->mB E.length b->cC q a=cC q b->∀ x,q (aX (cI E a b) x)=q x
 | .n,_,_,h,_,_,_=>by simp only[cI];exact h
 | .p _ _ _,.n,_,h,_,_,_=>by simp only[cI];exact h
 | .p r a b,.p s c d,E,h,h1,h2,e=>by
  simp only[cI]
  split
  ·exact h
  ·obtain⟨r1,r2,r3⟩:=h1.p
   obtain⟨s1,s2,s3⟩:=h2.p;simp only[cC,Ty.p.injEq] at e;refine vK b d _ (vK a c _ (join_min h r1 s1 e.1) ?_ ?_ e.2.1) ?_ ?_ e.2.2
   ·rw[dB];exact r2
   ·rw[dB];exact s2
   ·rw[bY,dB];exact r3
   ·rw[bY,dB];exact s3
theorem C9 {q:Nat->Nat}:∀ (ns:List NR) (T:List Ty) (E:List Nat),(∀ t∈T,mB E.length t)->(∀ n∈ns,n.at_<E.length)->AG q T (ns.map atR)->(∀ x,q (aX E x)=q x)->∀ x,q (aX (sH T E ns) x)=q x
 | [],_,_,_,_,_,h=>h
 | n::r,T,E,hT,hn,ho,h=>by
  have hb:∀ t∈T++[cH T (atR n)],mB E.length t:=λt ht=>by
   rcases List.mem_append.1 ht with ht | ht
   ·exact hT t ht
   ·simp only[List.mem_singleton] at ht;subst ht;exact xO hT _ (by simpa [atR] using hn n (by simp))
  simp only[List.map_cons,AG] at ho;simp only[sH]
  by_cases hc:n.form=7\/n.form=11
  ·rw[if_pos hc]
   have h1:=vK _ _ E h (fp hb _) (fp hb _) (ho.1 hc);refine C9 r _ _ ?_ ?_ ho.2 h1
   ·rw[bY];exact hb
   ·rw[bY];exact λm hm=>hn m (by simp[hm])
  ·rw[if_neg hc]
   exact C9 r _ _ hb (λm hm=>hn m (by simp[hm])) ho.2 h
theorem Pk (c:Nat->Nat):∀ (ns:List NR) (T:List Ty),(∀ (i:Nat) n,ns[i]?=some n->jw (T.length+i) n)->(∀ (i:Nat) n,ns[i]?=some n->n.form=7\/n.form=11->cC c (ai (aU T ns) n.p1)=cC c (ai (aU T ns) n.p2))->AG c T ns
 | [],_,_,_=>trivial
 | m::r,T,hb,ho=>by
  obtain⟨X,h1,_⟩:=ru r (T++[cH T m])
  have CX:jw T.length m:=by simpa using hb 0 m (by simp)
  simp only[AG];refine⟨λhf=>?_,Pk c r _ (λk x hx=>?_) (λk x hx=>?_)⟩
  ·have:=ho 0 m (by simp) hf
   simp only[aU] at this;rw[h1,List.append_assoc,cf CX.2.1,cf CX.2.2.1] at this;rw[cf CX.2.1,cf CX.2.2.1];exact this
  ·have:=hb (k+1) x (by simpa using hx)
   rw[List.length_append,List.length_singleton,show T.length+1+k=T.length+(k+1) by omega];exact this
  ·have:=ho (k+1) x (by simpa using hx)
   simp only[aU] at this;exact this
open Go.RowKit
theorem WV (L:Ly) (wb:Nat) (x1:Option Addr) (n1 c1:Nat) (x2:Option Addr) (n2 c2:Nat) (ns:List NR) (op:List Int) (p:Nat) (nm rg:List UInt8) (x:PT) (ih:BK L wb (.slice x1 n1 c1) (.slice x2 n2 c2) ns op x):Pb L wb (.slice x1 n1 c1) (.slice x2 n2 c2) ns op (.node p .new nm rg [x]):=by
 intro base w v tx hsh jQ hwf hle oX hin bq;simp only[gN,gq] at hsh;obtain⟨⟨n,hn,hf',hwd,nT,fk,oU⟩,hx,_⟩:=hsh;have hf:n.form=12:=hf';simp only[PT.bQ,bH] at jQ;simp only[PT.wf,qO] at hwf;simp only[PT.cnt,ax,Nat.add_zero] at hle oX hn;have hcx:=cV x;obtain⟨M,hM⟩:∃ M:Nat,(((base+x.cnt:Nat):Int)-1)=(M:Int):=⟨base+x.cnt-1,by omega⟩
 have hMb:M<=9000:=by have:=bq.len;omega
 have aar:n.p0=(M:Int):=by rw[nT,<- hM];rfl
 have hno:=eT w (.slice x1 n1 c1) (.slice x2 n2 c2) ns op (bq.tree w (Below.refl _ _)) (base+x.cnt) n hn bq.len;have hbl:=bq.len;have hb:=hin.blk
 have y0:w.cell? ⟨wb,0,none⟩=some (.slice x1 n1 c1):=by rw[aa hb];rfl
 have y1:w.cell? ⟨wb,1,none⟩=some (.slice x2 n2 c2):=by rw[aa hb];rfl
 have hcall:=λw' (h1:lu L wb w' (.slice x1 n1 c1) (.slice x2 n2 c2) v tx) (h2:rO L wb w' (.slice x1 n1 c1) (.slice x2 n2 c2) ns op)=>ih base w' v tx hx jQ.2.1 hwf.2.1 (by omega) (by omega) h1 h2
 rw[hM] at hcall;have HC:Hid _:=hcall;have nn:Hid _:=hin;have qx:Hid _:=bq;have hlt:=af hb;unfold aQ aK at hno;rw[hf,aar] at hno;generalize n.p1=m1 at hno;generalize n.p2=m2 at hno;generalize n.region=m3 at hno;generalize n.source=m4 at hno;generalize n.num=m5 at hno
 have e1:PT.Ap L.regs L.news (.node p .new nm rg [x]) base=x.wW L.regs L.news base:=by simp[PT.Ap,iK,PT.wW]
 rw[e1];simp only[PT.cnt,ax,Nat.add_zero];rw[show (((base+(1+x.cnt):Nat):Int)-1)=((base+x.cnt:Nat):Int) from by omega];generalize base+x.cnt=K at *;clear hb hin bq hcall hn hf' hf hwd nT fk oU hx aar ih jQ hwf oX e1
 go_enter Tryz.func77,Tryz.ntmps77
 go_wp2_with fail
 refine hno.mono ?_;rintro _ w1 ⟨rfl,hb1⟩;have hs1:=hb1.size
 go_wp2_with fail
 have hB:=hb1.alloc hb1.size (.cells #[.int .i64 12,.int .i64 n.at_,.int .i64 n.aL,.int .i64 m5,.string (bs n.word),.int .i64 m3,.int .i64 m4,.int .i64 M,.int .i64 m1,.int .i64 m2] 108);refine (HC.out _ (nn.out.below hB) (qx.out.on (hB.mono (Nat.le_of_lt hlt)))).mono ?_;rintro _ w3 ⟨v',rfl,hfr,rN⟩
 go_wp2_with fail
 refine bodyPost_end (v:=.tuple #[]) (by simp[results,Tryz.results77,go_sem]) rfl ⟨v',rfl,(kL.kC v hB).trans hfr,rN⟩
end Go.Proofs.YtpicaknklgccoabGreatDoor
