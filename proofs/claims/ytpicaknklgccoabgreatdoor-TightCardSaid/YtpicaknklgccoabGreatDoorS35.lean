import Derived.Test.YtpicaknklgccoabGreatDoorS34
set_option maxHeartbeats 8000000
set_option maxRecDepth 100000
namespace Go.Proofs.YtpicaknklgccoabGreatDoor
theorem uf (E fs:List Nat) (ns:List NR) (i:Nat) (n:NR) (h:ns[i]?=some n):jJ (dX E fs ns) i=if n.form=4 then lI fs (bu E n.at_) else -1:=by
 unfold jJ dX
 rw [List.getElem?_map,h];rfl
def kr (E fs:List Nat) (ns:List NR):List NR:=ns.map (fun n=>fL n (if n.form=4 then lI fs (bu E n.at_) else -1))
theorem AL (T:List Ty) (rg a b:Nat):∀ (l:List NR) (k i:Nat),eQ T rg a b l k=(i:Int)->(ai T i).has rg=false
 | [],_,i,h=>by simp only [eQ] at h;omega
 | n::r,k,i,h=>by
  simp only [eQ] at h
  split at h
  ·rename_i hc
   have:k=i:=by omega
   rw [<- this];exact hc.2.2
  ·exact AL T rg a b r (k+1) i h
mutual
theorem NA.src:∀ {scope:Sc} {t:PT} {base:Nat} {ns:List NR},NA scope t base ns->(∀ x∈scope,x.2 < (base:Int))->∀ (j:Nat) (n:NR),ns[j]?=some n->n.source < ((base+j:Nat):Int)
 | _,.num p s,base,ns,h,_,j,n,hn=>by
  simp only [NA] at h
  subst h
  have hj:j=0:=by have:=(List.getElem?_eq_some_iff.1 hn).1;simp at this;omega
  subst hj
  simp only [List.getElem?_cons_zero,Option.some.injEq] at hn;subst hn
  simp only;omega
 | scope,.name p s,base,ns,h,hs,j,n,hn=>by
  simp only [NA] at h
  subst h
  have hj:j=0:=by have:=(List.getElem?_eq_some_iff.1 hn).1;simp at this;omega
  subst hj
  simp only [List.getElem?_cons_zero,Option.some.injEq] at hn;subst hn
  simp only [Nat.add_zero]
  unfold bN
  split
  ·rename_i x hx
   exact hs x (by have:=List.mem_of_find?_eq_some hx;simpa using this)
  ·omega
 | scope,.node p k nm rg kids,base,ns,h,hs,j,n,hn=>by
  simp only [NA] at h
  obtain ⟨ks,aR,h1,rfl⟩:=h
  by_cases hj:j < ks.length
  ·rw [List.getElem?_append_left hj] at hn
   exact cY.src h1 hs j n hn
  ·have zO:j=ks.length:=by have:=(List.getElem?_eq_some_iff.1 hn).1;simp at this;omega
   rw [List.getElem?_append_right (by omega),zO,Nat.sub_self] at hn
   simp only [List.getElem?_cons_zero,Option.some.injEq] at hn;subst hn
   simp only;omega
theorem cY.src:∀ {scope:Sc} {nm:List UInt8} {ts:List PT} {bs:List Bool} {base:Nat} {ns:List NR},cY scope nm ts bs base ns->(∀ x∈scope,x.2 < (base:Int))->∀ (j:Nat) (n:NR),ns[j]?=some n->n.source < ((base+j:Nat):Int)
 | _,_,[],_,_,_,h,_,j,n,hn=>by simp only [cY] at h;rw [h.2] at hn;simp at hn
 | _,_,_::_,[],_,_,h,_,_,_,_=>by simp [cY] at h
 | scope,nm,t::r,b::bs,base,ns,h,hs,j,n,hn=>by
  simp only [cY] at h
  obtain ⟨a,c,h1,h2,rfl⟩:=h
  have hl:=NA.len h1
  by_cases hj:j < a.length
  ·rw [List.getElem?_append_left hj] at hn
   refine NA.src h1 (fun x hx=>?_) j n hn
   cases b with
   | false=>exact hs x (by simpa using hx)
   | true =>
    simp only [if_true,List.mem_append,List.mem_singleton] at hx
    rcases hx with hx | hx
    ·exact hs x hx
    ·rw [hx];simp only;omega
  ·rw [List.getElem?_append_right (by omega)] at hn
   have:=cY.src h2 (fun x hx=>by have:=hs x hx;omega) (j - a.length) n hn
   rw [hl] at this hj
   rw [show base+t.cnt+(j - t.cnt)=base+j from by omega] at this
   exact this
end
theorem Rm {t:PT} {ns:List NR} (h:NA [] t 0 ns) (i:Nat) (n:NR) (hn:ns[i]?=some n):lX i n:=by
 have h1:=h.back i n hn
 have h2:=h.src (fun x hx=>by simp at hx) i n hn
 rw [Nat.zero_add] at h1 h2
 exact ⟨h1.1,h1.2.1,h1.2.2,h2⟩
mutual
theorem BM:∀ (t:PT) (base i:Nat),base<=i->i < base+t.cnt->(i:Int)∈opn t base
 | .num _ _,base,i,h1,h2=>by simp only [PT.cnt] at h2;simp only [opn,List.mem_singleton];omega
 | .name _ _,base,i,h1,h2=>by simp only [PT.cnt] at h2;simp only [opn,List.mem_singleton];omega
 | .node _ _ _ _ kids,base,i,h1,h2=>by
  simp only [PT.cnt] at h2
  simp only [opn,List.mem_cons]
  by_cases h:i=base+az kids
  ·exact Or.inl (by rw [h])
  ·exact Or.inr (Ed kids base i h1 (by omega))
theorem Ed:∀ (ts:List PT) (base i:Nat),base<=i->i < base+az ts->(i:Int)∈mC ts base
 | [],base,i,h1,h2=>by simp only [az] at h2;omega
 | t::r,base,i,h1,h2=>by
  simp only [az] at h2
  simp only [mC,List.mem_append]
  by_cases h:i < base+t.cnt
  ·exact Or.inl (BM t base i h1 h)
  ·exact Or.inr (Ed r (base+t.cnt) i (by omega) (by omega))
end
def ug (P:Nat->Prop) (t:Ty):Prop:=∀ r∈t.zh,P r
theorem ug.p {P:Nat->Prop} {r:Nat} {a b:Ty} (h:ug P (.p r a b)):P r/\ug P a/\ug P b :=
 ⟨h r (by simp [Ty.zh]),fun x hx=>h x (by simp [Ty.zh,hx]),fun x hx=>h x (by simp [Ty.zh,hx])⟩
def ym (P:Nat->Prop) (E:List Nat):Prop:=∀ i,P i->P (bu E i)
theorem Ky {P:Nat->Prop} {E:List Nat} (hP:∀ i,P i->i < E.length) (h:ym P E) (x y:Nat) (hx:P x) (hy:P y):ym P (jd E x y):=fun i hi=>by
 rw [nV E x y (hP x hx) (hP y hy)]
 unfold PA
 split
 ·have h1:=h x hx
  have h2:=h y hy
  rcases Nat.le_total (bu E x) (bu E y) with e | e
  ·rw [Nat.min_eq_left e];exact h1
  ·rw [Nat.min_eq_right e];exact h2
 ·exact h i hi
theorem rN {P:Nat->Prop}:∀ (a b:Ty) (E:List Nat),(∀ i,P i->i < E.length)->ym P E->ug P a->ug P b->ym P (cJ E a b)
 | .n,_,_,_,h,_,_=>by simp only [cJ];exact h
 | .p _ _ _,.n,_,_,h,_,_=>by simp only [cJ];exact h
 | .p r a b,.p s c d,E,hP,h,h1,h2=>by
  simp only [cJ]
  split
  ·exact h
  ·obtain ⟨r1,r2,r3⟩:=h1.p
   obtain ⟨s1,s2,s3⟩:=h2.p
   refine rN b d _ (by rw [cK,fo];exact hP) (rN a c _ (by rw [fo];exact hP) (Ky hP h r s r1 s1) r2 s2) r3 s3
theorem lz {P:Nat->Prop} {T:List Ty} (h:∀ t∈T,ug P t) (i:Int):ug P (ai T i):=by
 unfold ai
 split
 ·cases e:T[i.toNat]? with
  | none=>intro r hr;simp [Ty.zh] at hr
  | some t=>exact h t (List.mem_of_getElem? e)
 ·intro r hr;simp [Ty.zh] at hr
theorem N9 {P:Nat->Prop} {T:List Ty} (h:∀ t∈T,ug P t) (m:NR) (hm:m.form=4->P m.region.toNat):ug P (cR T m):=by
 have h0:=lz h m.p0
 have h1:=lz h m.p1
 have h2:=lz h m.source
 have hn:ug P .n:=fun r hr=>by simp [Ty.zh] at hr
 unfold cR
 split
 ·exact h2
 split
 ·exact h0
 split
 ·exact h1
 split
 ·exact h1
 split
 ·exact h1
 split
 ·rename_i h4
  intro r hr
  simp only [Ty.zh,List.mem_cons,List.mem_append] at hr
  rcases hr with hr | hr | hr
  ·rw [hr];exact hm h4
  ·exact h0 r hr
  ·exact h1 r hr
 split
 ·cases e:ai T m.p0 with
  | n=>exact hn
  | p r a b=>rw [e] at h0;exact h0.p.2.1
 split
 ·cases e:ai T m.p0 with
  | n=>exact hn
  | p r a b=>rw [e] at h0;exact h0.p.2.2
 ·exact hn
theorem yo {P:Nat->Prop}:∀ (ns:List NR) (T:List Ty) (E:List Nat),(∀ i,P i->i < E.length)->ym P E->(∀ t∈T,ug P t)->(∀ n∈ns,n.form=4->P n.at_)->ym P (sj T E ns)
 | [],_,_,_,h,_,_=>h
 | n::r,T,E,hP,h,hT,hn=>by
  have hb:∀ t∈T++[cR T (atR n)],ug P t:=fun t ht=>by
   rcases List.mem_append.1 ht with ht | ht
   ·exact hT t ht
   ·simp only [List.mem_singleton] at ht;subst ht;exact N9 hT _ (fun h4=>by simpa [atR] using hn n (by simp) h4)
  simp only [sj]
  split
  ·exact yo r _ _ (by rw [cK];exact hP) (rN _ _ E hP h (lz hb _) (lz hb _)) hb (fun m hm=>hn m (by simp [hm]))
  ·exact yo r _ _ hP h hb (fun m hm=>hn m (by simp [hm]))
theorem Kz (B i:Nat):bu (List.range B) i=i:=by
 rw [gE]
 cases h:(List.range B)[i]? with
 | none=>rfl
 | some x =>
  have:=List.getElem?_eq_some_iff.1 h
  obtain ⟨_,h2⟩:=this
  simp only [List.getElem_range] at h2
  simp only
  rw [if_neg (by omega)]
theorem Oa {row:List Nat} {x:Nat} (h:x∈row):∃ i:Nat,lI row x=(i:Int)/\i < row.length:=by
 unfold lI
 cases e:row.findIdx? (· == x) with
 | some i=>exact ⟨i,rfl,(List.findIdx?_eq_some_iff_getElem.1 e).1⟩
 | none =>
  rw [List.findIdx?_eq_none_iff] at e
  have:=e x h
  simp at this
theorem Rn {e:PT} {ns:List NR} (h:NA [] e 0 ns) (n:NR) (hn:n∈ns):n∈bE ns (opn e 0):=by
 obtain ⟨i,hi⟩:=List.getElem?_of_mem hn
 have lN:=(List.getElem?_eq_some_iff.1 hi).1
 have:=BM e 0 i (Nat.zero_le _) (by have:=h.len;omega)
 unfold bE
 rw [List.mem_map]
 exact ⟨(i:Int),this,by rw [Int.toNat_natCast,hi];rfl⟩
theorem Ro {e:PT} {U:Ty} {ns:List NR} {n0:NR} (D1:WT [] e U) (hnn:cS e) (bt:NA [] e 0 ns) (hat:∀ n∈ns,n.at_ < n0.aR) (hfs:(bb (sj [] (List.range n0.aR) ns) (bE ns (opn e 0))).length<=1000) :
  Eb (dX (sj [] (List.range n0.aR) ns) (bb (sj [] (List.range n0.aR) ns) (bE ns (opn e 0))) ns)
   (gT (bC [] (kr (sj [] (List.range n0.aR) ns) (bb (sj [] (List.range n0.aR) ns) (bE ns (opn e 0))) ns)) ns n0 (bb (sj [] (List.range n0.aR) ns) (bE ns (opn e 0))).length)
   ns (bC [] (kr (sj [] (List.range n0.aR) ns) (bb (sj [] (List.range n0.aR) ns) (bE ns (opn e 0))) ns))/\jm [] (ns.map atR)/\jm [] (kr (sj [] (List.range n0.aR) ns) (bb (sj [] (List.range n0.aR) ns) (bE ns (opn e 0))) ns):=by
 have hbk:=fun i n hn=>Rm bt i n hn
 have hb1:∀ (i:Nat) n,(ns.map atR)[i]?=some n->lX (([]:List Ty).length+i) n:=fun i n hn=>by
  rw [List.getElem?_map] at hn
  obtain ⟨m,hm,rfl⟩:=Option.map_eq_some_iff.1 hn
  simpa [lX,atR] using hbk i m hm
 have YU:∀ i n,ns[i]?=some n->ai (bC [] (ns.map atR)) (i:Nat)=cR (bC [] (ns.map atR)) (fL n (((ns[i]?).map (fun m=>(m.at_:Int))).getD 0)):=fun i n hn=>by
  have:=BL (ns.map atR) [] hb1 i (atR n) (by rw [List.getElem?_map,hn];rfl)
  rw [List.length_nil,Nat.zero_add] at this
  rw [this,hn];rfl
 obtain ⟨_,Vw⟩:=Ec (ρ:=fun i=>((ns[i]?).map (fun m=>(m.at_:Int))).getD 0) YU D1 hnn [] 0 [] ns [] bt (by simp) rfl (fun s U h=>by simp [look] at h)
 rw [Nat.zero_add,<- bt.len] at Vw
 have P7:tF [] (ns.map atR):=AK _ _ hb1 (fun i n hn hf=>by
  rw [List.getElem?_map] at hn
  obtain ⟨m,hm,rfl⟩:=Option.map_eq_some_iff.1 hn
  exact (Vw i m (Nat.zero_le _) (List.getElem?_eq_some_iff.1 hm).1 hm).1 hf)
 have Fl:jm [] (ns.map atR):=Gu _ _ hb1 (fun i n hn hf=>by
  rw [List.getElem?_map] at hn
  obtain ⟨m,hm,rfl⟩:=Option.map_eq_some_iff.1 hn
  exact (Vw i m (Nat.zero_le _) (List.getElem?_eq_some_iff.1 hm).1 hm).2 hf)
 have hone:=A8 ns [] (List.range n0.aR) (fun t h=>by simp at h) (by rw [List.length_range];exact hat) P7
 have hkeep:ym (fun x=>∃ n∈ns,n.form=4/\n.at_=x) (sj [] (List.range n0.aR) ns) :=
  yo ns [] (List.range n0.aR) (fun i ⟨n,hn,_,he⟩=>by rw [List.length_range,<- he];exact hat n hn) (fun i hi=>by rw [Kz];exact hi) (fun t h=>by simp at h) (fun n hn h4=>⟨n,hn,h4,rfl⟩)
 generalize sj [] (List.range n0.aR) ns=E at *
 have hmem:∀ n∈ns,n.form=4->bu E n.at_∈bb E (bE ns (opn e 0)):=fun n hn h4=>by
  obtain ⟨m,hm,m4,ZI⟩:=hkeep n.at_ ⟨n,hn,h4,rfl⟩
  unfold bb
  rw [List.mem_map]
  refine ⟨m,List.mem_filter.2 ⟨Rn bt m hm,?_⟩,ZI⟩
  rw [ZI,nU]
  simp [m4]
 generalize bb E (bE ns (opn e 0))=fs at *
 obtain ⟨f,hf⟩:∃ f:Nat->Nat,f=fun x=>(lI fs (bu E x)).toNat:=⟨_,rfl⟩
 have rY:∀ (l:List NR) (T:List Ty),bC (T.map (iE f)) (kr E fs l)=(bC T (l.map atR)).map (iE f):=fun l=>by
  induction l with
  | nil=>intro T;simp [kr,bC]
  | cons n r ih =>
   intro T
   have e1:cR (T.map (iE f)) (fL n (if n.form=4 then lI fs (bu E n.at_) else -1))=iE f (cR T (atR n)):=PV f T (atR n) _ rfl (fun h4=>by
    have h4':n.form=4:=h4
    simp only [fL,atR,if_pos h4',Int.toNat_natCast];rw [hf])
   have ih2:=ih (T++[cR T (atR n)])
   rw [List.map_append,List.map_singleton,<- e1] at ih2
   simp only [kr,List.map_cons,bC] at ih2 ⊢
   exact ih2
 have YV:=rY ns []
 rw [List.map_nil] at YV
 have hb2:∀ (i:Nat) n,(kr E fs ns)[i]?=some n->lX (([]:List Ty).length+i) n:=fun i n hn=>by
  unfold kr at hn
  rw [List.getElem?_map] at hn
  obtain ⟨m,hm,rfl⟩:=Option.map_eq_some_iff.1 hn
  simpa [lX,fL] using hbk i m hm
 have jj:Pu (dX E fs ns) ns:=fun i n hn=>by
  rw [uf E fs ns i n hn]
  refine ⟨fun h4=>?_,fun h4=>by rw [if_neg h4]⟩
  obtain ⟨j,hj,hjl⟩:=Oa (hmem n (List.mem_of_getElem? hn) h4)
  rw [if_pos h4,hj];omega
 have SN:∀ i n,ns[i]?=some n->ai (bC [] (kr E fs ns)) (i:Nat)=cR (bC [] (kr E fs ns)) (fL n (jJ (dX E fs ns) i)):=fun i n hn=>by
  have:=BL (kr E fs ns) [] hb2 i (fL n (if n.form=4 then lI fs (bu E n.at_) else -1)) (by unfold kr;rw [List.getElem?_map,hn];rfl)
  rw [List.length_nil,Nat.zero_add] at this
  rw [this,uf E fs ns i n hn]
 refine ⟨⟨SN,jj,fun i n hn hfm=>?_,fun r i hr=>?_⟩,Fl,?_⟩
 ·have h1:=IG (bu E) (ns.map atR) [] hb1 hone i (atR n) (by rw [List.getElem?_map,hn];rfl) hfm
  rw [YV,kQ,kQ]
  have hc:gy (bu E) f:=fun a b hab=>by rw [hf];simp only [hab]
  exact hc.map _ _ h1
 ·unfold gT at hr
  rw [List.getElem?_map] at hr
  obtain ⟨k,hk,hkr⟩:=Option.map_eq_some_iff.1 hr
  have:k=r:=by
   have:=(List.getElem?_eq_some_iff.1 hk).2
   simpa using this.symm
  subst this
  exact AL _ _ _ _ _ _ _ hkr
 ·obtain ⟨_,SP⟩:=Ec (ρ:=fun i=>jJ (dX E fs ns) i) SN D1 hnn [] 0 [] ns [] bt (by simp) rfl (fun s U h=>by simp [look] at h)
  rw [Nat.zero_add,<- bt.len] at SP
  exact Gu _ _ hb2 (fun i n hn dc=>by
   unfold kr at hn
   rw [List.getElem?_map] at hn
   obtain ⟨m,hm,rfl⟩:=Option.map_eq_some_iff.1 hn
   exact (SP i m (Nat.zero_le _) (List.getElem?_eq_some_iff.1 hm).1 hm).2 dc)
open Go.RowKit
def BN (ns:List NR) (n0:NR):List Nat:=sj [] (List.range n0.aR) ns
def vq (e:PT) (ns:List NR) (n0:NR):List Nat:=bb (BN ns n0) (bE ns (opn e 0))
def gh (e:PT) (ns:List NR) (n0:NR):List Int:=dX (BN ns n0) (vq e ns n0) ns
def uh (e:PT) (ns:List NR) (n0:NR):List Ty:=bC [] (kr (BN ns n0) (vq e ns n0) ns)
def gi (e:PT) (ns:List NR) (n0:NR):List Int:=gT (uh e ns n0) ns n0 (vq e ns n0).length
structure Nds (e:PT) (ns:List NR) (n0:NR):Prop where
 na:NA [] e 0 ns
 last:ns[ns.length - 1]?=some n0
 aR:n0.aR<=3000
 at_:∀ n∈ns,n.at_ < n0.aR
 pos:∃ lo hi,dr e ns lo hi
mutual
theorem dr.all:∀ {t:PT} {ns:List NR} {lo hi:Nat},dr t ns lo hi->∀ n∈ns,lo<=n.at_/\n.at_ < hi
 | .num p _,ns,lo,hi,h,n,hn=>by simp only [dr] at h;obtain ⟨m,rfl,h1,h2,h3,h4⟩:=h;simp only [List.mem_singleton] at hn;subst hn;omega
 | .name p _,ns,lo,hi,h,n,hn=>by simp only [dr] at h;obtain ⟨m,rfl,h1,h2,h3,h4⟩:=h;simp only [List.mem_singleton] at hn;subst hn;omega
 | .node p _ _ _ kids,ns,lo,hi,h,n,hn=>by
  simp only [dr] at h
  obtain ⟨ks,m,rfl,h1,h2,h3,h4,h5⟩:=h
  rcases List.mem_append.1 hn with hn | hn
  ·have:=bZ.all h3 n hn;omega
  ·simp only [List.mem_singleton] at hn;subst hn;omega
theorem bZ.all:∀ {ts:List PT} {ns:List NR} {lo hi:Nat},bZ ts ns lo hi->∀ n∈ns,lo<=n.at_/\n.at_ < hi
 | [],ns,lo,hi,h,n,hn=>by simp only [bZ] at h;rw [h.1] at hn;simp at hn
 | t::r,ns,lo,hi,h,n,hn=>by
  simp only [bZ] at h
  obtain ⟨a,c,mid,rfl,h1,h2⟩:=h
  have hl:=h1.lt
  have hr:=h2.le
  rcases List.mem_append.1 hn with hn | hn
  ·have:=dr.all h1 n hn;omega
  ·have:=bZ.all h2 n hn;omega
end
theorem KA {t:PT} {ns:List NR} {lo hi:Nat} (h:dr t ns lo hi):∃ n0,ns[ns.length - 1]?=some n0/\n0.aR<=hi/\∀ n∈ns,n.at_ < n0.aR:=by
 cases t with
 | num p s=>simp only [dr] at h;obtain ⟨m,rfl,h1,h2,h3,h4⟩:=h;exact ⟨m,rfl,h4,fun n hn=>by simp only [List.mem_singleton] at hn;subst hn;omega⟩
 | name p s=>simp only [dr] at h;obtain ⟨m,rfl,h1,h2,h3,h4⟩:=h;exact ⟨m,rfl,h4,fun n hn=>by simp only [List.mem_singleton] at hn;subst hn;omega⟩
 | node p k nm rg kids =>
  simp only [dr] at h
  obtain ⟨ks,m,rfl,h1,h2,h3,h4,h5⟩:=h
  refine ⟨m,by simp,h5,fun n hn=>?_⟩
  rcases List.mem_append.1 hn with hn | hn
  ·exact (h3.all n hn).2
  ·simp only [List.mem_singleton] at hn;subst hn;omega
theorem yp (E:List Nat) (ns:List NR):∀ op:List Int,(bb E (bE ns op)).length<=(op.filterMap (bS ns)).length
 | []=>by simp [bE,bb]
 | x::r=>by
  have ih:=yp E ns r
  unfold bb at ih ⊢
  simp only [bE,List.map_cons] at ih ⊢
  rw [List.filter_cons,List.filterMap_cons]
  simp only [List.length_map] at ih ⊢
  cases h:ns[x.toNat]? with
  | none =>
   have hx:bS ns x=none:=by unfold bS;rw [h]
   have h4:(Fc.form == 4 && bu E Fc.at_ == Fc.at_)=false:=by simp [Fc]
   rw [hx,Option.getD_none,h4]
   exact ih
  | some n =>
   rw [Option.getD_some]
   by_cases h4:n.form=4
   ·have hx:bS ns x=some n.at_:=by unfold bS;rw [h];simp only;rw [if_pos h4]
    rw [hx]
    simp only [List.length_cons]
    split
    ·simp only [List.length_cons];omega
    ·omega
   ·have hx:bS ns x=none:=by unfold bS;rw [h];simp only;rw [if_neg h4]
    have h5:(n.form == 4 && bu E n.at_ == n.at_)=false:=by simp [h4]
    rw [hx,h5]
    exact ih
theorem yq {e:PT} {ns:List NR} {n0:NR} (h:NA [] e 0 ns):(vq e ns n0).length<=e.bK:=by
 have h1:=yp (BN ns n0) ns (opn e 0)
 rw [tJ ns e [] 0 ns h (fun j _=>by rw [Nat.zero_add]),List.length_map,vE] at h1
 exact h1
theorem Rp (row:List Nat) (x:Nat):-1<=lI row x/\lI row x<=row.length:=by
 unfold lI
 cases h:row.findIdx? (· == x) with
 | some i=>have:=(List.findIdx?_eq_some_iff_getElem.1 h).1;simp only;omega
 | none=>simp only;omega
theorem II (e:PT) (ns:List NR) (n0:NR) (hl:(vq e ns n0).length<=100):(∀ i,jJ (gh e ns n0) i<=9999)/\∀ i,-1<=jJ (gh e ns n0) i:=by
 have key:∀ i,-1<=jJ (gh e ns n0) i/\jJ (gh e ns n0) i<=100:=fun i=>by
  unfold jJ gh dX
  rw [List.getElem?_map]
  cases ns[i]? with
  | none=>simp
  | some n =>
   simp only [Option.map_some,Option.getD_some]
   split
   ·have:=Rp (vq e ns n0) (bu (BN ns n0) n.at_);omega
   ·omega
 exact ⟨fun i=>by have:=key i;omega,fun i=>(key i).1⟩
theorem KC (E fs:List Nat) (ns:List NR) (k:Nat) (n:NR) (r:Int) (hn:ns[k]?=some n) (hr:(dX E fs ns)[k]?=some r):(kr E fs ns).drop k=fL n r::(kr E fs ns).drop (k+1):=by
 have hk:k < (kr E fs ns).length:=by unfold kr;rw [List.length_map];exact (List.getElem?_eq_some_iff.1 hn).1
 rw [List.drop_eq_getElem_cons hk]
 congr 1
 have h1:(kr E fs ns)[k]?=some (kr E fs ns)[k]:=List.getElem?_eq_getElem hk
 unfold kr dX at *
 rw [List.getElem?_map,hn] at h1 hr
 simp only [Option.map_some,Option.some.injEq] at h1 hr
 rw [<- h1,hr]
theorem zJ (s:ByteArray) (hs:s.size<=3000) (e:PT) (hp:PE false (tokens s.data.toList) e []) (Ob:cC e=(0,0)) :
  ∃ ns n0,Nds e ns n0/\Eb (gh e ns n0) (gi e ns n0) ns (uh e ns n0)/\∀ w,Lib.TabIs Tryz.prog w "internal/strconv.uint64pow10" .u64 Lib.pow10Tab->Calls Tryz.prog 16 #[.string s] w fun v w'=>v=.returned (.tuple #[.string (bs (e.u7 (gh e ns n0) (gi e ns n0) 0)),.int .i64 (0:Nat)])/\Below w.heap.size w w':=by
 obtain ⟨ns,bt,A7⟩:=ot (len:=s.size) hp
 have hps:=Dt (ae:=false) (len:=s.size) hp (xx s.data.toList)
 have YW:=A7
 rw [A7] at hps
 obtain ⟨n0,hlast,aaZ,hat⟩:=KA hps
 have hN:Nds e ns n0:=⟨bt,hlast,by omega,hat,_,_,hps⟩
 have hwf:=hp.wf
 have hc1:(cC e).1=0:=by rw [Ob]
 obtain ⟨U,D1,_⟩:=Vr hwf hc1
 obtain ⟨⟨aa0,hnn⟩,_⟩:=PE.plain hp (eJ _)
 have iG:=(hp.bL (eJ _)).1
 have Gv:e.bK<=100:=by
  unfold cC at hc1
  split at hc1
  ·simp at hc1
  ·omega
 have hfl:=yq (n0:=n0) bt
 have hL:Eb (gh e ns n0) (gi e ns n0) ns (uh e ns n0)/\jm [] (ns.map atR)/\jm [] (kr (BN ns n0) (vq e ns n0) ns):=Ro D1 hnn bt hat (by show (vq e ns n0).length<=1000;omega)
 obtain ⟨Wu,Fl,FP⟩:=hL
 refine ⟨ns,n0,hN,Wu,fun w htab=>?_⟩
 have jL:=jn hp
 have kN:=bt.len
 obtain ⟨hb1,hb2⟩:=II e ns n0 (by omega)
 have YX:(gi e ns n0).length<=150:=by unfold gi gT;rw [List.length_map,List.length_range];omega
 have Pf:=fun w=>Bu s w hs e hp
 rw [Ob,YW] at Pf
 have jj:=fun (W:World) (x1:Option Addr) (n1 c1:Nat) (x2:Option Addr) (n2 c2:Nat) (hT:bg W (.slice x1 n1 c1) (.slice x2 n2 c2) ns (opn e 0))=>Bx W x1 n1 c1 x2 n2 c2 ns (opn e 0) hT (zZ bt) (by omega) (bt.small (fun _ h=>by simp at h) (by omega)) n0 hlast (by omega) hat Fl (BN ns n0) (vq e ns n0) rfl rfl (kr (BN ns n0) (vq e ns n0) ns) (fun k n r hn hr=>⟨KC _ _ ns k n r hn hr,fun h4=>by
  have h1:=(Wu.pr k n hn).1 h4
  have h2:jJ (gh e ns n0) k=r:=by unfold jJ gh;rw [hr];rfl
  rw [h2] at h1;exact h1.1⟩) (by unfold kr;rw [List.length_map]) FP
 have hwp:=fun (W:World) (hb:Below w.heap.size w W) (x1:Option Addr) (n1 c1:Nat) (x2:Option Addr) (n2 c2:Nat) (y1:Option Addr) (m1 d1:Nat) (y2:Option Addr) (m2 d2:Nat) (hT:bg W (.slice x1 n1 c1) (.slice x2 n2 c2) ns (opn e 0)) (hL:wP W ⟨.slice y1 m1 d1,.slice y2 m2 d2,gh e ns n0,gi e ns n0⟩)=>wW W y1 m1 d1 y2 m2 d2 (gh e ns n0) (gi e ns n0) hL ⟨YX,hb1⟩ hb2 (by unfold gh dX;rw [List.length_map];omega) x1 n1 c1 x2 n2 c2 ns (opn e 0) e hT (Lib.tabBelow_of_tabIs htab W hb) bt.wN iG hwf kN.symm (by omega)
 unfold aJ at Pf jj hwp
 have ZU:Hid _:=Pf
 have Cf:Hid (∀ (W:World) (x1:Option Addr) (n1 c1:Nat) (x2:Option Addr) (n2 c2:Nat),bg W (.slice x1 n1 c1) (.slice x2 n2 c2) ns (opn e 0)->Calls Tryz.prog 31 #[.agg #[.slice x1 n1 c1,.slice x2 n2 c2]] W fun v w'=>∃ y1 m1 d1 y2 m2 d2,v=.returned (.agg #[.slice y1 m1 d1,.slice y2 m2 d2])/\wP w' ⟨.slice y1 m1 d1,.slice y2 m2 d2,gh e ns n0,gi e ns n0⟩/\Below W.heap.size W w'):=jj
 have HWP:Hid _:=hwp
 generalize e.u7 (gh e ns n0) (gi e ns n0) 0=TX at *
 generalize gh e ns n0=regs at *
 generalize gi e ns n0=news at *
 clear hp hps A7 YW hlast aaZ hat hN hwf hc1 D1 aa0 hnn iG Gv hfl Wu Fl FP jL kN hb1 hb2 YX Pf jj hwp htab Ob bt
 go_enter Tryz.func16,Tryz.ntmps16
 go_wp2_with fail
 refine Calls.mono (ZU.out _) ?_
 rintro _ w1 ⟨x1,n1,c1,x2,n2,c2,ns',rfl,hb1,mr,_,hns⟩
 have aa1:ns'=ns:=hns.symm
 subst aa1
 have hA:Below w.heap.size w (w1.alloc (.cells #[.slice x1 n1 c1,.slice x2 n2 c2] 62)):=hb1.alloc hb1.size _
 have rY:=mr.below (show Below w1.heap.size w1 (w1.alloc (.cells #[.slice x1 n1 c1,.slice x2 n2 c2] 62)) from (Below.refl _ _).alloc (Nat.le_refl _) _)
 have hpc:=Cf.out _ x1 n1 c1 x2 n2 c2 rY
 have hk:=aj w1 (.cells #[.slice x1 n1 c1,.slice x2 n2 c2] 62 (0,0))
 have Ds:Hid _:=rY
 have HA:Hid _:=hA
 have HK:Hid _:=hk
 clear hb1 mr hA rY hk hns ZU Cf
 go_wp2_with fail
 refine Calls.mono hpc ?_
 rintro _ w2 ⟨y1,m1,d1,y2,m2,d2,rfl,Wu,hb2⟩
 have lE:=HA.out.trans (hb2.mono HA.out.size)
 have hal:Below w2.heap.size w2 (w2.alloc (.cells #[.slice y1 m1 d1,.slice y2 m2 d2] 73)):=(Below.refl _ _).alloc (Nat.le_refl _) _
 have ES:Below w.heap.size w (w2.alloc (.cells #[.slice y1 m1 d1,.slice y2 m2 d2] 73)):=lE.alloc lE.size _
 have hwc:=HWP.out _ ES x1 n1 c1 x2 n2 c2 y1 m1 d1 y2 m2 d2 ((Ds.out.below hb2).below hal) (Wu.below hal)
 have hk2:=(hb2.block _ (af HK.out)).trans HK.out
 have a0:w2.cell? ⟨w1.heap.size,0,none⟩=some (.slice x1 n1 c1):=by rw [aa hk2];rfl
 have a1:w2.cell? ⟨w1.heap.size,1,none⟩=some (.slice x2 n2 c2):=by rw [aa hk2];rfl
 have al:=af hk2
 have an:=Nat.ne_of_lt al
 have iV:Hid _:=ES
 clear Wu hb2 lE hal ES hk2 hpc Ds HA HK HWP
 go_wp2_with fail
 refine Calls.mono hwc ?_
 rintro _ w3 ⟨rfl,hb3⟩
 have pP:Hid _:=iV.out.trans (hb3.mono iV.out.size)
 clear hb3 hwc iV a0 a1 al an
 go_wp2
 refine bodyPost_ret (v:=.tuple #[.string (bs TX),.int .i64 0]) (by simp [results,Tryz.results16,go_sem]) rfl ⟨rfl,pP.out⟩
theorem BO:∀ (X:Vl) (v:MV) (m:MM),m.fault=0->(cT X v m).fault=0\/(cT X v m).fault=13
 | .n _,_,m,h=>Or.inl h
 | .p a b,v,m,h=>by
  simp only [cT]
  have hu:(m.use v).2.fault=0\/(m.use v).2.fault=13:=by
   unfold MM.use MM.stop
   split
   ·exact Or.inl h
   ·simp only;split
    ·exact Or.inl h
    ·first | exact Or.inr rfl | (rw [if_pos h];exact Or.inr rfl)
  have h1:(cT a (m.use v).1.a (m.use v).2).fault=0\/(cT a (m.use v).1.a (m.use v).2).fault=13:=by
   rcases hu with hu | hu
   ·exact BO a _ _ hu
   ·rw [ju a _ _ (by rw [hu];decide)];exact Or.inr hu
  rcases h1 with h1 | h1
  ·exact BO b _ _ h1
  ·rw [ju b _ _ (by rw [h1];decide)];exact Or.inr h1
theorem ui {m:MM}:∀ {T:Ty} {X:Vl} {v:MV},gu m.cells X v->cd m T v->cT X v m=m
 | _,.n _,_,_,_=>rfl
 | .n,.p a b,v,hr,hl=>by
  simp only [gu] at hr
  simp only [cd] at hl
  rw [hr.1] at hl;exact absurd hl.1 (by decide)
 | .p r A B,.p a b,v,hr,hl=>by
  obtain ⟨u1,u2,u3⟩:=Gq hl
  simp only [cd] at hl
  obtain ⟨hc,i,c,g,hv,hi,h3,h4,_,_,_⟩:=hl
  simp only [gu] at hr
  obtain ⟨_,i',c',hv',hi',ha,hb⟩:=hr
  have hii:i'=i:=by omega
  subst hii
  have hcc:c'=c:=by rw [hi] at hi';exact (Option.some.inj hi').symm
  subst hcc
  have e2:m.cells.getD v.n.toNat c0=c':=by rw [hv,Int.toNat_natCast,List.getD_eq_getElem?_getD,hi];rfl
  have lN:=(List.getElem?_eq_some_iff.1 hi).1
  have e1:(m.use v).1=c':=by
   unfold MM.use
   rw [if_neg (by rw [hc,hv];simp;omega),e2]
  simp only [cT]
  rw [u1,e1]
  rw [e1] at u2 u3
  rw [ui ha u2,ui hb u3]
def IJ (R:Vl × bY) (m:MM) (v:Value) (E:Nat):Prop :=
 (E=13/\v=.agg #[.string ⟨#[]⟩,.int .i64 0,.int .i64 0,.int .i64 0,.int .i64 0])\/(R.2.e=12/\E=12/\v=.agg #[.string ⟨#[]⟩,.int .i64 0,.int .i64 0,.int .i64 0,.int .i64 0]) \/
  (R.2.e=0/\E=0/\v=.agg #[.string (bs R.1.txt),.int .i64 R.2.steps,.int .i64 R.2.cells,.int .i64 m.most,.int .i64 m.live])
theorem Rq (fuel k:Nat) {t:PT} {T:Ty} (D1:WT [] t T) (hT:T.size<=63) (hr:t.jr) (hk:t.cnt<=k) :
  ∃ X,gu (mW fuel t [] 0 ((m0 k).opn (-1))).2.cells X (mW fuel t [] 0 ((m0 k).opn (-1))).1/\X.size<=63 /\
   IJ (ev fuel t.era [] ⟨0,0,0⟩) (mW fuel t [] 0 ((m0 k).opn (-1))).2 (xp (cT X (mW fuel t [] 0 ((m0 k).opn (-1))).1 (mW fuel t [] 0 ((m0 k).opn (-1))).2) X) (cT X (mW fuel t [] 0 ((m0 k).opn (-1))).1 (mW fuel t [] 0 ((m0 k).opn (-1))).2).fault /\
   (∀ T',mw [] t T'->(cT X (mW fuel t [] 0 ((m0 k).opn (-1))).1 (mW fuel t [] 0 ((m0 k).opn (-1))).2).fault≠13):=by
 have hlen:((m0 k).opn (-1)).named.length=k:=by simp [m0,MM.opn]
 have her:ER ((m0 k).opn (-1)).named ((m0 k).opn (-1)).cells [] [] [] 0:=fun s T h=>by simp [look] at h
 have hs0:Sw fuel ⟨0,0,0⟩ ((m0 k).opn (-1)):=⟨rfl,rfl,rfl,Nat.zero_le _,rfl,by simp [m0,MM.opn]⟩
 have hf:=jC fuel D1 [] 0 ((m0 k).opn (-1)) hr her.ef (by rw [hlen];omega)
 have Vx:=Gp fuel D1 [] 0 ((m0 k).opn (-1)) [] ⟨0,0,0⟩ hr her (by rw [hlen];omega) hs0
 have hlv:∀ T',mw [] t T'->AG ((m0 k).opn (-1)) (mW fuel t [] 0 ((m0 k).opn (-1))) 0 t.cnt T':=fun T' h=>IB fuel h [] 0 ((m0 k).opn (-1)) (fun s U hs=>by simp [look] at hs) (by rw [hlen];omega) rfl (by simp [m0,MM.opn])
 generalize mW fuel t [] 0 ((m0 k).opn (-1))=x at hf Vx hlv ⊢
 generalize ev fuel t.era [] ⟨0,0,0⟩=y at Vx ⊢
 rcases Vx with ⟨h1,h2,h3⟩ | hB | hD
 ·refine ⟨y.1,h2,by rw [xq (cells:=x.2.cells) h3];exact hT,?_,fun T' hw=>?_⟩
  ·obtain ⟨c1,_,_,c4,c5,c6⟩:=pF y.1 x.1 x.2
   rcases BO y.1 x.1 x.2 h1.f with h0 | Vy
   ·right;right
    refine ⟨h1.e,h0,?_⟩
    unfold xp
    rw [if_neg (fun h=>h h0),c4,c1,h1.s,h1.c,c5,c6]
   ·left
    refine ⟨Vy,?_⟩
    unfold xp
    rw [if_pos (by rw [Vy];decide)]
  ·rcases (hlv T' hw).ok with h12 | ⟨h0,hl⟩
   ·rw [h1.f] at h12;cases h12
   ·rw [ui h2 hl,h0];decide
 ·obtain ⟨X,hX,Po⟩:=vM hf.2
  have hne:x.2.fault≠0:=by rw [hB.2];decide
  refine ⟨X,hX,by omega,?_,fun T' hw=>?_⟩
  ·right;left
   rw [ju X x.1 x.2 hne]
   refine ⟨hB.1,hB.2,?_⟩
   unfold xp
   rw [if_pos hne]
  ·rw [ju X x.1 x.2 hne,hB.2];decide
 ·obtain ⟨X,hX,Po⟩:=vM hf.2
  have hne:x.2.fault≠0:=by rw [hD];decide
  refine ⟨X,hX,by omega,?_,fun T' hw=>?_⟩
  ·left
   rw [ju X x.1 x.2 hne]
   refine ⟨hD,?_⟩
   unfold xp
   rw [if_pos hne]
  ·rcases (hlv T' hw).ok with h12 | ⟨h0,_⟩
   ·rw [hD] at h12;cases h12
   ·rw [hD] at h0;cases h0
theorem mL (s:ByteArray) (hs:s.size<=9000) (e:PT) (U:Ty) (hp:PE true (tokens s.data.toList) e []) (hc:cC e=(0,0)) (D1:WT [] e U) (hU:U.size<=63) (fuel:Nat) (hf:fuel<=20000) :
  ∃ (v:Value) (E:Nat),IJ (ev fuel e.era [] ⟨0,0,0⟩) (mW fuel e [] 0 ((m0 e.cnt).opn (-1))).2 v E/\(∀ T',mw [] e T'->E≠13)/\∀ w,Lib.TabIs Tryz.prog w "internal/strconv.uint64pow10" .u64 Lib.pow10Tab->Calls Tryz.prog 13 #[.string s,.int .i64 fuel] w fun r w'=>r=.returned (.tuple #[v,.int .i64 E])/\Below w.heap.size w w':=by
 have hwf:=hp.wf
 have jL:=jn hp
 have hrg:=vT e (hp.bL (eJ _)).1 (hp.vg (pI _)).1
 obtain ⟨X,hX,Po,cQ,Vy⟩:=Rq fuel e.cnt D1 hU hrg (Nat.le_refl _)
 refine ⟨_,_,cQ,Vy,fun w htab=>?_⟩
 obtain ⟨S,a,b,c,d,hV⟩:∃ S a b c d,xp (cT X (mW fuel e [] 0 ((m0 e.cnt).opn (-1))).1 (mW fuel e [] 0 ((m0 e.cnt).opn (-1))).2) X=.agg #[.string S,.int .i64 a,.int .i64 b,.int .i64 c,.int .i64 d]:=by
  unfold xp;split
  ·exact ⟨_,_,_,_,_,rfl⟩
  ·exact ⟨_,_,_,_,_,rfl⟩
 rw [hV]
 refine D2 s fuel w e 0 S a b c d _ (fun w=>?_) (fun w' x1 n1 c1 x2 n2 c2 ns hb hTr bt=>?_)
 ·have:=vp s w hs e hp
  rw [hc] at this
  exact this
 ·have kN:=bt.len
  refine Vq w' x1 n1 c1 x2 n2 c2 fuel hf S a b c d _ (fun w'' YY=>?_)
  have:=QG x1 n1 c1 x2 n2 c2 fuel ns (opn e 0) hf (by omega) w'' (hTr.below YY) (Lib.tabBelow_of_tabIs htab w'' (hb.trans (YY.mono hb.size))) e bt.Qy hwf hrg kN.symm _ rfl X (by rw [kN];exact hX) Po
  rw [kN] at this
  rw [hV] at this
  exact this
theorem Gw (ts:List PT) (j:Nat) (hj:j < ts.length):az (ts.take j)+ts[j].cnt<=az ts:=by
 have h:=tM ts (j+1)
 rw [List.take_succ_eq_append_getElem hj,Ac] at h
 exact h
theorem zK (ts:List PT):az (ts.take 0)=0:=by simp [az]
mutual
theorem lab (cls:List Nat) (hc:∀ x∈cls,x < 1000):∀ (t:PT) (scope:Sc) (ns:List NR) (env:aQ) (st:dM) (T:List Ty) (id site:Nat),NA scope t T.length ns->ld T env scope->j3 env st->sO cls t.EW site->id+t.cnt<=st.of.length->(aD cls t id site env st).2.e=0 ->
  ∃ T',Dx T t.cnt ns T' st.of (aD cls t id site env st).2.of id (t.subs id site)/\T'[t.cnt - 1]?=some (aD cls t id site env st).1/\(aD cls t id site env st).2.of[id]?=some (aD cls t id site env st).1.txt
 | .num p s,scope,ns,env,st,T,id,site,hn,hr,ho,tD,hid,he=>by
  simp only [NA] at hn
  subst hn
  simp only [PT.cnt] at hid
  simp only [aD] at he ⊢
  obtain ⟨f1,f2,f3⟩:=xH id p (Ty.n,st)
  rw [f1,f2]
  refine ⟨[.n],?_,rfl,List.getElem?_set_self (show id < st.of.length by omega)⟩
  have:=Dx.root (Dx.nil T st.of (id+1)) ⟨1,p,p+s.length,aq s,[],0,-1,-1,-1,-1⟩ .n (.num p s,id,site) (by simp [cR]) lU (by simp) (by omega) rfl (fun TY _=>by simp [pR,iM])
  exact this
 | .name p s,scope,ns,env,st,T,id,site,hn,hr,ho,tD,hid,he=>by
  simp only [NA] at hn
  subst hn
  have hres:=fw cls hc (.name p s) id site env st ho
  simp only [PT.cnt] at hid
  simp only [aD] at he hres ⊢
  rcases hr.look s with ⟨h1,h2⟩ | ⟨t,h1,h2,h3⟩
  ·rw [h1] at he
   simp only at he
   obtain ⟨_,_,f3⟩:=xH id p (Ty.n,cZ st 4 p)
   have:=(f3 he).1
   unfold cZ at this
   split at this
   ·simp at this
   ·rename_i hh;exact absurd this hh
  ·rw [h1] at he hres ⊢
   simp only at he hres ⊢
   obtain ⟨f1,f2,f3⟩:=xH id p (t,st)
   have hfit:=hres.1
   rw [f1] at hfit
   rw [f1,f2]
   refine ⟨[t],?_,rfl,List.getElem?_set_self (show id < st.of.length by omega)⟩
   have:=Dx.root (Dx.nil T st.of (id+1)) ⟨2,p,p+s.length,0,s,0,bN scope s,-1,-1,-1⟩ t (.name p s,id,site) (by simp [cR,h3]) hfit (by simp) (by omega) rfl (fun TY _=>by simp [pR,iM])
   exact this
 | .node p k nm rg kids,scope,ns,env,st,T,id,site,hn,hr,ho,tD,hid,he=>by
  simp only [NA] at hn
  obtain ⟨ks,aR,hks,rfl⟩:=hn
  have hb:=hks.Vz
  have hres:=fw cls hc (.node p k nm rg kids) id site env st ho
  simp only [PT.cnt] at hid
  simp only [PT.EW] at tD
  have hlen:(nC cls nm kids (cf k) (id+1) (site+if k=.pair then 1 else 0) env .n st).1.length=(cf k).length:=BP cls nm kids (cf k) _ _ _ _ _ hb
  have Jy:sO cls (tT kids) (site+if k=.pair then 1 else 0):=by
   have:=tD.right
   by_cases hk:k=.pair
   ·simpa [hk] using this
   ·simpa [hk] using this
  have hK:=YZ cls hc nm kids (cf k) scope ks env .n st T (id+1) (site+if k=.pair then 1 else 0) hks hr ho lU (by simp [Ty.size]) (fun e=>by revert e;cases k <;> simp [cf]) Jy (by omega)
  rw [Ee cls p k nm rg kids id site env .n st hb] at he hres ⊢
  generalize nC cls nm kids (cf k) (id+1) (site+if k=.pair then 1 else 0) env .n st=x at hK hlen he hres ⊢
  have e0:x.2.e=0:=by
   have:=((xH id p _).2.2 he).1
   by_cases hh:x.2.e≠0/\k≠.aT
   ·rw [if_pos hh] at this;exact this
   ·rw [if_neg hh] at this
    by_cases hk:k=.aT
    ·subst hk;simpa [aP] using this
    ·exact Classical.byContradiction fun h=>hh ⟨h,hk⟩
  have Oc:¬ (x.2.e≠0/\k≠.aT):=fun h=>h.1 e0
  rw [if_neg Oc] at he hres ⊢
  obtain ⟨T',hL,hP⟩:=hK e0
  obtain ⟨f1,f2,f3⟩:=xH id p (aP cls k p site x.1 x.2)
  obtain ⟨g1,g2⟩:=f3 he
  obtain ⟨m1,m2,m3,m4⟩:=M5 cls k p site id nm rg kids x.1 x.2 (T++T') aR (by rw [hb]) hlen e0 (fun hk=>by
   subst hk
   have:=tD 0 (p,rg) (by simp)
   simpa using this) T.length (fun j t ht=>by obtain ⟨i,i1,i2,_⟩:=hP j t ht;exact ⟨i,i1,i2⟩) g1 g2
  have hfit:=hres.1
  rw [f1] at hfit
  rw [f1,f2,m1]
  have WV:id < x.2.of.length:=by rw [hL.UW];omega
  refine ⟨T'++[(aP cls k p site x.1 x.2).1],?_,?_,by rw [List.getElem?_set_self WV]⟩
  ·have:=Dx.root hL _ _ (.node p k nm rg kids,id,site) m2 hfit m3 (by omega) rfl (fun TY hT=>m4 TY _ (fun j t ht=>by
    obtain ⟨i,_,_,i3⟩:=hP j t ht
    have hj:j < kids.length:=by rw [<- hb,<- hlen];exact (List.getElem?_eq_some_iff.1 ht).1
    have hcj:az (kids.take j) < az kids:=by
     have h1:=Gw kids j hj
     have h2:=Hq kids[j]
     omega
    have:=hT (id+1+az (kids.take j)) (by omega) (by omega)
    rw [i3] at this
    exact (QQ (Option.some.inj this)).symm))
   simpa [PT.cnt,PT.subs] using this
  ·have hl:=hL.len
   rw [List.getElem?_append_right (by simp [PT.cnt];omega)]
   simp [PT.cnt,hl]
theorem YZ (cls:List Nat) (hc:∀ x∈cls,x < 1000) (nm:List UInt8):∀ (ts:List PT) (bs:List Bool) (scope:Sc) (ns:List NR) (env:aQ) (prev:Ty) (st:dM) (T:List Ty) (id site:Nat),cY scope nm ts bs T.length ns->ld T env scope->j3 env st->prev.fit->prev.size<=63->(bs.head?=some true->0 < T.length/\T[T.length - 1]?=some prev) ->
  sO cls (tT ts) site->id+az ts<=st.of.length->(nC cls nm ts bs id site env prev st).2.e=0 ->
  ∃ T',Dx T (az ts) ns T' st.of (nC cls nm ts bs id site env prev st).2.of id (Dv ts id site)/\∀ (j:Nat) (t:Ty),(nC cls nm ts bs id site env prev st).1[j]?=some t->∃ i:Nat,(aA ts T.length).getD j (-1)=(i:Int)/\(T++T')[i]?=some t/\(nC cls nm ts bs id site env prev st).2.of[id+az (ts.take j)]?=some t.txt
 | [],bs,scope,ns,env,prev,st,T,id,site,hn,_,_,_,_,_,_,_,_=>by
  simp only [cY] at hn
  obtain ⟨rfl,rfl⟩:=hn
  simp only [nC,az,Dv]
  exact ⟨[],Dx.nil _ _ _,fun j t h=>by simp at h⟩
 | _::_,[],_,_,_,_,_,_,_,_,hn,_,_,_,_,_,_,_,_=>by simp [cY] at hn
 | a::r,b::bs,scope,ns,env,prev,st,T,id,site,hn,hr,ho,gI,vA,hp3,tD,hid,he=>by
  simp only [cY] at hn
  obtain ⟨na,nc,h1,h2,rfl⟩:=hn
  have hr':ld T (if b then env++[(nm,prev)] else env) (if b then scope++[(nm,(T.length:Int) - 1)] else scope):=by
   cases b with
   | false=>exact hr
   | true =>
    obtain ⟨hT0,mr⟩:=hp3 rfl
    refine hr.app ⟨rfl,?_,?_,trivial⟩
    ·show (0:Int)<=(T.length:Int) - 1;omega
    ·show T[((T.length:Int) - 1).toNat]?=_
     rw [show ((T.length:Int) - 1).toNat=T.length - 1 from by omega];exact mr
  have C5:j3 (if b then env++[(nm,prev)] else env) st:=by
   cases b with
   | false=>exact ho
   | true =>
    constructor
    ·intro x hx
     rcases List.mem_append.1 hx with hx | hx
     ·exact ho.1 x hx
     ·rw [List.mem_singleton] at hx;subst hx;exact gI
    ·intro e0 x hx
     rcases List.mem_append.1 hx with hx | hx
     ·exact ho.2 e0 x hx
     ·rw [List.mem_singleton] at hx;subst hx;exact vA
  simp only [az] at hid
  simp only [tT] at tD
  have hA:=lab cls hc a (if b then scope++[(nm,(T.length:Int) - 1)] else scope) na (if b then env++[(nm,prev)] else env) st T id site h1 hr' C5 tD.left (by omega)
  have hR:=fw cls hc a id site (if b then env++[(nm,prev)] else env) st C5
  simp only [nC] at he ⊢
  generalize aD cls a id site (if b then env++[(nm,prev)] else env) st=x at hA hR he ⊢
  have e0:x.2.e=0:=Classical.byContradiction fun h=>by
   have hs:=yt cls nm r bs (id+a.cnt) (site+a.bK) env x.1 x.2 h
   rw [hs.1] at he
   exact h he
  obtain ⟨T1,hL,mr,WZ⟩:=hA e0
  have hl1:(T++T1).length=T.length+a.cnt:=by simp [hL.len]
  have hcp:=Hq a
  have aa2:st.e=0:=(hR.2.1 e0).1
  have hlast:(T++T1)[T.length+a.cnt - 1]?=some x.1:=by
   rw [List.getElem?_append_right (by omega),show T.length+a.cnt - 1 - T.length=a.cnt - 1 from by omega];exact mr
  have hB:=YZ cls hc nm r bs scope nc env x.1 x.2 (T++T1) (id+a.cnt) (site+a.bK) (by rw [hl1];exact h2) hr.more (ho.on (fun _=>aa2)) hR.1 (hR.2.1 e0).2 (fun _=>⟨by omega,by rw [hl1];exact hlast⟩) (by have:=tD.right;rwa [vE] at this) (by rw [hL.UW];omega)
  generalize nC cls nm r bs (id+a.cnt) (site+a.bK) env x.1 x.2=y at hB he ⊢
  obtain ⟨T2,hM,hP2⟩:=hB he
  refine ⟨T1++T2,?_,?_⟩
  ·simp only [az,Dv]
   exact hL.app hM
  ·intro j t hj
   cases j with
   | zero =>
    simp only [List.getElem?_cons_zero,Option.some.injEq] at hj
    subst hj
    refine ⟨T.length+a.cnt - 1,?_,?_,?_⟩
    ·simp only [aA,List.getD_cons_zero];omega
    ·rw [<- List.append_assoc,List.getElem?_append_left (by omega)];exact hlast
    ·rw [zK,Nat.add_zero,hM.out id (by omega)];exact WZ
   | succ j =>
    simp only [List.getElem?_cons_succ] at hj
    obtain ⟨i,i1,i2,i3⟩:=hP2 j t hj
    rw [hl1] at i1
    refine ⟨i,?_,by rw [<- List.append_assoc];exact i2,?_⟩
    ·simp only [aA,List.getD_cons_succ];exact i1
    ·simp only [List.take_succ_cons,az]
     rw [<- Nat.add_assoc];exact i3
end
theorem Od (e:PT) (ns:List NR) (bt:NA [] e 0 ns) (h3:e.vg) (he:(aD (oJ e) e 0 0 [] (CO e)).2.e=0) :
  jm [] ns/\∃ TY:List Ty,TY.length=e.cnt/\(∀ T∈TY,T.fit)/\(aD (oJ e) e 0 0 [] (CO e)).2.of=TY.map Ty.txt/\uD [] ns=tU TY (e.subs 0 0):=by
 have QW:(CO e).of.length=e.cnt:=by simp [CO]
 obtain ⟨T',hL,_,_⟩:=lab (oJ e) (M0 h3) e [] ns [] (CO e) [] 0 0 bt trivial ⟨fun x hx=>by simp at hx,fun _ x hx=>by simp at hx⟩ (fun i x hx=>by
  rw [Nat.zero_add]
  unfold oJ
  rw [List.getD_eq_getElem?_getD,List.getElem?_map,hx];rfl) (by omega) he
 refine ⟨hL.sz,?_⟩
 generalize (aD (oJ e) e 0 0 [] (CO e)).2.of=of at hL
 have hch:∀ k:Nat,∃ U:Ty,U.fit/\(k < e.cnt->of[k]?=some U.txt):=by
  intro k
  by_cases hk:k < e.cnt
  ·obtain ⟨U,u1,u2⟩:=hL.Z8 k (Nat.zero_le _) (by omega)
   exact ⟨U,u1,fun _=>u2⟩
  ·exact ⟨.n,lU,fun h=>absurd h hk⟩
 have WZ:of.length=e.cnt:=by rw [hL.UW,QW]
 let f:Nat->Ty:=fun k=>Classical.choose (hch k)
 have hf:∀ k,(f k).fit/\(k < e.cnt->of[k]?=some (f k).txt):=fun k=>Classical.choose_spec (hch k)
 have hat:∀ k,k < e.cnt->BB ((List.range e.cnt).map f) k=f k:=by
  intro k hk
  unfold BB
  rw [List.getElem?_map,List.getElem?_range hk];rfl
 refine ⟨(List.range e.cnt).map f,by simp,?_,?_,?_⟩
 ·intro T hT
  obtain ⟨k,_,rfl⟩:=List.mem_map.1 hT
  exact (hf k).1
 ·apply List.ext_getElem?
  intro k
  by_cases hk:k < e.cnt
  ·rw [(hf k).2 hk,List.getElem?_map,List.getElem?_map,List.getElem?_range hk];rfl
  ·rw [List.getElem?_eq_none (by omega),List.getElem?_eq_none (by simp;omega)]
 ·refine hL.pl _ (fun k _ h2=>?_)
  rw [Nat.zero_add] at h2
  rw [hat k h2];exact (hf k).2 h2
mutual
theorem NA.Y0:∀ {scope:Sc} {t:PT} {base:Nat} {ns:List NR},NA scope t base ns->t.vg->∀ n∈ns,0<=n.region
 | _,.num p s,_,_,h,_,n,hn=>by simp only [NA] at h;subst h;rw [List.mem_singleton] at hn;subst hn;exact Int.le_refl _
 | _,.name p s,_,_,h,_,n,hn=>by simp only [NA] at h;subst h;rw [List.mem_singleton] at hn;subst hn;exact Int.le_refl _
 | _,.node p k nm rg kids,_,_,h,h3,n,hn=>by
  simp only [NA] at h
  obtain ⟨ks,aR,hk,rfl⟩:=h
  simp only [PT.vg] at h3
  rcases List.mem_append.1 hn with hn | hn
  ·exact hk.Y0 h3.2 n hn
  ·rw [List.mem_singleton] at hn;subst hn;simp only;omega
theorem cY.Y0:∀ {scope:Sc} {nm:List UInt8} {ts:List PT} {bs:List Bool} {base:Nat} {ns:List NR},cY scope nm ts bs base ns->xC ts->∀ n∈ns,0<=n.region
 | _,_,[],_,_,_,h,_,n,hn=>by simp only [cY] at h;rw [h.2] at hn;simp at hn
 | _,_,_::_,[],_,_,h,_,n,hn=>by simp [cY] at h
 | _,_,t::r,b::bs,_,_,h,h3,n,hn=>by
  simp only [cY] at h
  obtain ⟨a,c,h1,h2,rfl⟩:=h
  simp only [xC] at h3
  rcases List.mem_append.1 hn with hn | hn
  ·exact h1.Y0 h3.1 n hn
  ·exact h2.Y0 h3.2 n hn
end
theorem Oe (e:PT) (hm:e.bK<=100):(aD (oJ e) e 0 0 [] (CO e)).2.e=(cC e).1/\(aD (oJ e) e 0 0 [] (CO e)).2.at_=(cC e).2:=by
 have h:=(gS (oJ e) (List.range e.bK) e 0 0 0 0 [] [] (CO e) (CO e) rfl ⟨rfl,rfl⟩).2
 unfold cC
 rw [if_neg (by omega)]
 exact h
open Go.Lib (decDigits)
mutual
theorem BQ:∀ e:PT,e.era.np=e.np.era
 | .num _ _=>rfl
 | .name _ _=>rfl
 | .node p k nm rg kids=>by
  simp only [PT.era,PT.np]
  split
  ·rw [<- BR kids]
   cases gC kids with
   | nil=>rfl
   | cons a r=>rfl
  ·simp only [PT.np,BR kids]
theorem BR:∀ l:List PT,eX (gC l)=gC (eX l)
 | []=>rfl
 | t::r=>by simp only [gC,eX,BQ t,BR r]
end
mutual
theorem BS:∀ e:PT,e.np.lO=e.lO
 | .num _ _=>rfl
 | .name _ _=>rfl
 | .node p k nm rg kids=>by simp only [PT.lO,PT.np,IK kids]
theorem IK:∀ l:List PT,ig (eX l)=ig l
 | []=>rfl
 | t::r=>by simp only [ig,eX,BS t,IK r]
end
end Go.Proofs.YtpicaknklgccoabGreatDoor
