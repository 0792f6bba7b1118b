import Derived.Test.YtpicaknklgccoabGreatDoorV40
namespace Go.Proofs.YtpicaknklgccoabGreatDoor
theorem rC {α:Type} {a c:List α} {i:Nat} {x:α} (h:(a++c)[i]?=some x):(i<a.length/\a[i]?=some x)\/(a.length<=i/\c[i-a.length]?=some x):=by
 by_cases e:i<a.length
 ·rw[List.getElem?_append_left e] at h;exact Or.inl ⟨e,h⟩
 ·rw[List.getElem?_append_right (by omega)] at h;exact Or.inr ⟨by omega,h⟩
mutual
theorem FI:∀ {t:PT} {ms:List NR} {lo hi:Nat},bG t ms lo hi->∀ (i j:Nat) (m n:NR),ms[i]?=some m->ms[j]?=some n->i<j->¬ (m.at_<=n.at_/\n.aL<=m.aL)
 | .num p _,ms,lo,hi,h,i,j,m,n,hm,hn,hij=>by
  simp only[bG] at h;obtain⟨x,rfl,_⟩:=h;have:=(List.getElem?_eq_some_iff.1 hn).1;simp only[List.length_singleton] at this;omega
 | .name p _,ms,lo,hi,h,i,j,m,n,hm,hn,hij=>by
  simp only[bG] at h;obtain⟨x,rfl,_⟩:=h;have:=(List.getElem?_eq_some_iff.1 hn).1;simp only[List.length_singleton] at this;omega
 | .node p _ _ _ kids,ms,lo,hi,h,i,j,m,n,hm,hn,hij=>by
  simp only[bG] at h;obtain⟨ks,x,rfl,h1,h2,h3,h4,h5⟩:=h
  rcases rC hn with ⟨n1,n2⟩ | ⟨n1,n2⟩
  ·rcases rC hm with ⟨m1,m2⟩ | ⟨m1,m2⟩
   ·exact BQ h3 i j m n m2 n2 hij
   ·omega
  ·have hj:j-ks.length=0:=by
    have:=(List.getElem?_eq_some_iff.1 n2).1;simp only[List.length_singleton] at this;omega
   rw[hj] at n2;simp only[List.getElem?_cons_zero,Option.some.injEq] at n2;subst n2
   rcases rC hm with ⟨m1,m2⟩ | ⟨m1,m2⟩
   ·have:=ba.zV h3 m (List.mem_of_getElem? m2)
    omega
   ·omega
theorem BQ:∀ {ts:List PT} {ms:List NR} {lo hi:Nat},ba ts ms lo hi->∀ (i j:Nat) (m n:NR),ms[i]?=some m->ms[j]?=some n->i<j->¬ (m.at_<=n.at_/\n.aL<=m.aL)
 | [],ms,lo,hi,h,i,j,m,n,hm,hn,hij=>by
  simp only[ba] at h;obtain⟨rfl,_⟩:=h;simp at hm
 | t::r,ms,lo,hi,h,i,j,m,n,hm,hn,hij=>by
  simp only[ba] at h;obtain⟨a,c,mid,rfl,h1,h2⟩:=h
  rcases rC hm with ⟨m1,m2⟩ | ⟨m1,m2⟩
  ·rcases rC hn with ⟨n1,n2⟩ | ⟨n1,n2⟩
   ·exact FI h1 i j m n m2 n2 hij
   ·have e1:=bG.zV h1 m (List.mem_of_getElem? m2)
    have e2:=ba.zV h2 n (List.mem_of_getElem? n2);omega
  ·rcases rC hn with ⟨n1,n2⟩ | ⟨n1,n2⟩
   ·omega
   ·exact BQ h2 _ _ m n m2 n2 (by omega)
end
mutual
def PT.qG:PT->Nat->List (Nat × Nat)
 | .num _ _,b=>[(b,1)]
 | .name _ _,b=>[(b,1)]
 | .node _ _ _ _ kids,b=>(b,1+ax kids)::oQ kids b
def oQ:List PT->Nat->List (Nat × Nat)
 | [],_=>[]
 | t::r,b=>t.qG b++oQ r (b+t.cnt)
end
theorem BR (t:PT) (b:Nat):(b,t.cnt)∈t.qG b:=by cases t <;> simp[PT.qG,PT.cnt]
theorem ni.qG {R:Nat->Int->Prop} {e q:PT} (h:ni R e q):∀ (b:Nat) (k:Int) (x y:Nat),(k,x,y)∈q.qF b->(x,y)∈e.qG b:=by
 induction h with
 | num _=>intro b k x y hm;simp[PT.qF] at hm
 | name=>intro b k x y hm;simp[PT.qF] at hm
 | aP ha hb aF bu =>
  intro b k x y hm;simp only[PT.qF,jz,reduceCtorEq,if_false,List.nil_append,List.append_nil,List.mem_append,ha.pc] at hm;simp only[PT.qG,oQ,List.append_nil,List.mem_cons,List.mem_append]
  rcases hm with hm | hm
  ·exact Or.inr (Or.inl (aF _ _ _ _ hm))
  ·exact Or.inr (Or.inr (bu _ _ _ _ hm))
 | pair _ ha hb aF bu =>
  intro b k x y hm;simp only[PT.qF,jz,reduceCtorEq,if_false,List.nil_append,List.append_nil,List.mem_append,ha.pc] at hm;simp only[PT.qG,oQ,List.append_nil,List.mem_cons,List.mem_append]
  rcases hm with hm | hm
  ·exact Or.inr (Or.inl (aF _ _ _ _ hm))
  ·exact Or.inr (Or.inr (bu _ _ _ _ hm))
 | fst _ aF =>
  intro b k x y hm;simp only[PT.qF,jz,reduceCtorEq,if_false,List.nil_append,List.append_nil] at hm;simp only[PT.qG,oQ,List.append_nil,List.mem_cons];exact Or.inr (aF _ _ _ _ hm)
 | snd _ aF =>
  intro b k x y hm;simp only[PT.qF,jz,reduceCtorEq,if_false,List.nil_append,List.append_nil] at hm;simp only[PT.qG,oQ,List.append_nil,List.mem_cons];exact Or.inr (aF _ _ _ _ hm)
 | di ha hb hc aF bu fe =>
  intro b k x y hm;simp only[PT.qF,jz,reduceCtorEq,if_false,List.nil_append,List.append_nil,List.mem_append,ha.pc,hb.pc] at hm;simp only[PT.qG,oQ,List.append_nil,List.mem_cons,List.mem_append]
  rcases hm with hm | hm | hm
  ·exact Or.inr (Or.inl (aF _ _ _ _ hm))
  ·exact Or.inr (Or.inr (Or.inl (bu _ _ _ _ hm)))
  ·exact Or.inr (Or.inr (Or.inr (fe _ _ _ _ hm)))
 | two hk ha hb aF bu =>
  intro b k x y hm
  have hn:∀ k:Kw,k=.add\/k=.sub\/k=.less->k≠.new:=by intro k h;rcases h with rfl | rfl | rfl <;> decide
  simp only[PT.qF,jz,if_neg (hn _ hk),List.nil_append,List.append_nil,List.mem_append,ha.pc] at hm;simp only[PT.qG,oQ,List.append_nil,List.mem_cons,List.mem_append]
  rcases hm with hm | hm
  ·exact Or.inr (Or.inl (aF _ _ _ _ hm))
  ·exact Or.inr (Or.inr (bu _ _ _ _ hm))
 | loop ha hb hc aF bu fe =>
  intro b k x y hm;simp only[PT.qF,jz,reduceCtorEq,if_false,List.nil_append,List.append_nil,List.mem_append,ha.pc,hb.pc] at hm;simp only[PT.qG,oQ,List.append_nil,List.mem_cons,List.mem_append]
  rcases hm with hm | hm | hm
  ·exact Or.inr (Or.inl (aF _ _ _ _ hm))
  ·exact Or.inr (Or.inr (Or.inl (bu _ _ _ _ hm)))
  ·exact Or.inr (Or.inr (Or.inr (fe _ _ _ _ hm)))
 | new ha aF =>
  intro b k x y hm;simp only[PT.qF,jz,if_true,List.append_nil,List.singleton_append,List.mem_cons,Prod.mk.injEq,Gz,Nat.add_zero,ha.pc] at hm
  rcases hm with ⟨_,rfl,rfl⟩ | hm
  ·exact BR _ _
  ·exact aF _ _ _ _ hm
mutual
theorem Dk:∀ (t:PT) (ms:List NR) (lo hi b:Nat),bG t ms lo hi->∀ x y,(x,y)∈t.qG b->b<=x/\x+y<=b+t.cnt/\∀ i,x<=i->i<x+y->∃ m n,ms[i-b]?=some m/\ms[x+y-1-b]?=some n/\n.at_<=m.at_/\m.aL<=n.aL
 | .num p _,ms,lo,hi,b,h,x,y,hm=>by
  simp only[PT.qG,List.mem_singleton,Prod.mk.injEq] at hm;obtain⟨rfl,rfl⟩:=hm;simp only[bG] at h;obtain⟨n,rfl,_⟩:=h;refine⟨Nat.le_refl _,Nat.le_refl _,λi h1 h2=>⟨n,n,?_,?_,Nat.le_refl _,Nat.le_refl _⟩⟩
  ·rw[show i-x=0 by omega];rfl
  ·rw[show x+1-1-x=0 by omega];rfl
 | .name p _,ms,lo,hi,b,h,x,y,hm=>by
  simp only[PT.qG,List.mem_singleton,Prod.mk.injEq] at hm;obtain⟨rfl,rfl⟩:=hm;simp only[bG] at h;obtain⟨n,rfl,_⟩:=h;refine⟨Nat.le_refl _,Nat.le_refl _,λi h1 h2=>⟨n,n,?_,?_,Nat.le_refl _,Nat.le_refl _⟩⟩
  ·rw[show i-x=0 by omega];rfl
  ·rw[show x+1-1-x=0 by omega];rfl
 | .node p _ _ _ kids,ms,lo,hi,b,h,x,y,hm=>by
  simp only[bG] at h;obtain⟨ks,n,rfl,h1,h2,h3,h4,h5⟩:=h;have hkl:=ba.len h3;simp only[PT.qG,List.mem_cons,Prod.mk.injEq] at hm
  rcases hm with ⟨rfl,rfl⟩ | hm
  ·refine⟨Nat.le_refl _,Nat.le_refl _,λi g1 g2=>?_⟩
   have hr:(ks++[n])[x+(1+ax kids)-1-x]?=some n:=by
    rw[show x+(1+ax kids)-1-x=ks.length by omega,List.getElem?_append_right (Nat.le_refl _),Nat.sub_self];rfl
   by_cases qq:i-x<ks.length
   ·have hl:(ks++[n])[i-x]?=some ks[i-x]:=by rw[List.getElem?_append_left qq,List.getElem?_eq_getElem qq]
    have:=ba.zV h3 _ (List.getElem_mem qq);exact⟨_,n,hl,hr,by omega,by omega⟩
   ·refine⟨n,n,?_,hr,Nat.le_refl _,Nat.le_refl _⟩
    rw[show i-x=ks.length by omega,List.getElem?_append_right (Nat.le_refl _),Nat.sub_self];rfl
  ·obtain⟨g1,g2,g3⟩:=FJ kids ks _ _ b h3 x y hm
   refine⟨g1,by simp only[PT.cnt];omega,λi k1 k2=>?_⟩;obtain⟨m,n',e1,e2,e3⟩:=g3 i k1 k2;exact⟨m,n',by rw[List.getElem?_append_left (List.getElem?_eq_some_iff.1 e1).1];exact e1,by rw[List.getElem?_append_left (List.getElem?_eq_some_iff.1 e2).1];exact e2,e3⟩
theorem FJ:∀ (ts:List PT) (ms:List NR) (lo hi b:Nat),ba ts ms lo hi->∀ x y,(x,y)∈oQ ts b->b<=x/\x+y<=b+ax ts/\∀ i,x<=i->i<x+y->∃ m n,ms[i-b]?=some m/\ms[x+y-1-b]?=some n/\n.at_<=m.at_/\m.aL<=n.aL
 | [],_,_,_,_,_,x,y,hm=>by simp[oQ] at hm
 | t::r,ms,lo,hi,b,h,x,y,hm=>by
  simp only[ba] at h;obtain⟨a,c,mid,rfl,h1,h2⟩:=h;have hal:=bG.len h1;simp only[oQ,List.mem_append] at hm
  rcases hm with hm | hm
  ·obtain⟨g1,g2,g3⟩:=Dk t a _ _ b h1 x y hm
   refine⟨g1,by simp only[ax];omega,λi k1 k2=>?_⟩;obtain⟨m,n',e1,e2,e3⟩:=g3 i k1 k2;exact⟨m,n',by rw[List.getElem?_append_left (List.getElem?_eq_some_iff.1 e1).1];exact e1,by rw[List.getElem?_append_left (List.getElem?_eq_some_iff.1 e2).1];exact e2,e3⟩
  ·obtain⟨g1,g2,g3⟩:=FJ r c _ _ (b+t.cnt) h2 x y hm
   refine⟨by omega,by simp only[ax];omega,λi k1 k2=>?_⟩;obtain⟨m,n',e1,e2,e3⟩:=g3 i k1 k2;refine⟨m,n',?_,?_,e3⟩
   ·rw[List.getElem?_append_right (by omega),show i-b-a.length=i-(b+t.cnt) by omega];exact e1
   ·rw[List.getElem?_append_right (by omega),show x+y-1-b-a.length=x+y-1-(b+t.cnt) by omega];exact e2
end
theorem FK:∀ {ts:List PT} {ms:List NR} {lo hi:Nat},ba ts ms lo hi->lo<=hi
 | [],ms,lo,hi,h=>by simp only[ba] at h;exact h.2
 | t::r,ms,lo,hi,h=>by
  simp only[ba] at h;obtain⟨a,c,mid,rfl,h1,h2⟩:=h;obtain⟨n0,hn0,_⟩:=nN h1;have:=bG.zV h1 n0 (List.mem_of_getElem? hn0);have:=FK h2;omega
mutual
theorem FL (ns:List NR):∀ (t:PT) (ms:List NR) (lo hi b:Nat),bG t ms lo hi->Mc ns ms b->((bw ns (opn t b)).map (·.at_)).Pairwise (·<·)/\∀ n∈bw ns (opn t b),lo<=n.at_/\n.at_<hi
 | .num p _,ms,lo,hi,b,h,he=>by
  simp only[bG] at h;obtain⟨n,rfl,h1,h2,h3,h4⟩:=h;have:=he 0 n rfl;rw[Nat.add_zero] at this;simp[opn,bw,this];omega
 | .name p _,ms,lo,hi,b,h,he=>by
  simp only[bG] at h;obtain⟨n,rfl,h1,h2,h3,h4⟩:=h;have:=he 0 n rfl;rw[Nat.add_zero] at this;simp[opn,bw,this];omega
 | .node p k nm rg kids,ms,lo,hi,b,h,he=>by
  simp only[bG] at h;obtain⟨ks,n,rfl,h1,h2,h3,h4,h5⟩:=h;have hkl:=ba.len h3
  have hn:ns[b+ax kids]?=some n:=by
   have:=he ks.length n (by rw[List.getElem?_append_right (Nat.le_refl _),Nat.sub_self];rfl)
   rwa [hkl] at this
  obtain⟨g1,g2⟩:=BS ns kids ks _ _ b h3 he.left
  have e:bw ns (opn (.node p k nm rg kids) b)=n::bw ns (jS kids b):=by
   simp only[opn,bw,List.map_cons,Int.toNat_natCast,hn,Option.getD_some]
  rw[e];refine⟨?_,λm hm=>?_⟩
  ·simp only[List.map_cons,List.pairwise_cons]
   refine⟨λx hx=>?_,g1⟩;obtain⟨m,hm,rfl⟩:=List.mem_map.1 hx;have:=g2 m hm;omega
  ·rcases List.mem_cons.1 hm with hm | hm
   ·subst hm;omega
   ·have:=g2 m hm;omega
theorem BS (ns:List NR):∀ (ts:List PT) (ms:List NR) (lo hi b:Nat),ba ts ms lo hi->Mc ns ms b->((bw ns (jS ts b)).map (·.at_)).Pairwise (·<·)/\∀ n∈bw ns (jS ts b),lo<=n.at_/\n.at_<hi
 | [],_,_,_,_,_,_=>by simp[jS,bw]
 | t::r,ms,lo,hi,b,h,he=>by
  simp only[ba] at h;obtain⟨a,c,mid,rfl,h1,h2⟩:=h;have hal:=bG.len h1;obtain⟨g1,g2⟩:=FL ns t a _ _ b h1 he.left;have her:=he.right;rw[hal] at her;obtain⟨k1,k2⟩:=BS ns r c _ _ (b+t.cnt) h2 her
  have e:bw ns (jS (t::r) b)=bw ns (opn t b)++bw ns (jS r (b+t.cnt)):=by simp only[jS,bw,List.map_append]
  have hlo:lo<=mid:=by
   obtain⟨n0,hn0,_⟩:=nN h1;have:=bG.zV h1 n0 (List.mem_of_getElem? hn0);omega
  rw[e];refine⟨?_,λm hm=>?_⟩
  ·rw[List.map_append,List.pairwise_append]
   refine⟨g1,k1,λx hx y hy=>?_⟩;obtain⟨m,hm,rfl⟩:=List.mem_map.1 hx;obtain⟨m',hm',rfl⟩:=List.mem_map.1 hy;have:=g2 m hm;have:=k2 m' hm';omega
  ·rcases List.mem_append.1 hm with hm | hm
   ·have:=g2 m hm
    have hmh:mid<=hi:=FK h2;omega
   ·have:=k2 m hm;omega
end
theorem ni.mono {R R':Nat->Int->Prop} {e q:PT} (h:ni R e q):∀ (ms:List NR) (lo hi:Nat),bG e ms lo hi->(∀ x v,lo<=x->x<hi->R x v->R' x v)->ni R' e q:=by
 have BU:∀ {t:PT} {a:List NR} {lo mid:Nat},bG t a lo mid->lo<mid:=λ{t a lo mid} h=>by
  obtain⟨n0,hn0,_⟩:=nN h;have:=bG.zV h n0 (List.mem_of_getElem? hn0);omega
 induction h with
 | num h=>intros;exact .num h
 | name=>intros;exact .name
 | aP _ _ aF bu =>
  intro ms lo hi hp hR;simp only[bG,ba] at hp;obtain⟨ks,n,rfl,h1,h2,⟨a1,c1,m1,rfl,p1,⟨a2,c2,m2,rfl,p2,_,h0⟩⟩,h4,h5⟩:=hp;have:=BU p1;have:=BU p2;exact .aP (aF _ _ _ p1 (λx v q1 q2=>hR x v (by omega) (by omega))) (bu _ _ _ p2 (λx v q1 q2=>hR x v (by omega) (by omega)))
 | pair hr _ _ aF bu =>
  intro ms lo hi hp hR;simp only[bG,ba] at hp;obtain⟨ks,n,rfl,h1,h2,⟨a1,c1,m1,rfl,p1,⟨a2,c2,m2,rfl,p2,_,h0⟩⟩,h4,h5⟩:=hp;have:=BU p1;have:=BU p2;exact .pair (hR _ _ (by omega) (by omega) hr) (aF _ _ _ p1 (λx v q1 q2=>hR x v (by omega) (by omega))) (bu _ _ _ p2 (λx v q1 q2=>hR x v (by omega) (by omega)))
 | fst _ aF =>
  intro ms lo hi hp hR;simp only[bG,ba] at hp;obtain⟨ks,n,rfl,h1,h2,⟨a1,c1,m1,rfl,p1,_,h0⟩,h4,h5⟩:=hp;exact .fst (aF _ _ _ p1 (λx v q1 q2=>hR x v (by omega) (by omega)))
 | snd _ aF =>
  intro ms lo hi hp hR;simp only[bG,ba] at hp;obtain⟨ks,n,rfl,h1,h2,⟨a1,c1,m1,rfl,p1,_,h0⟩,h4,h5⟩:=hp;exact .snd (aF _ _ _ p1 (λx v q1 q2=>hR x v (by omega) (by omega)))
 | di _ _ _ aF bu fe =>
  intro ms lo hi hp hR;simp only[bG,ba] at hp;obtain⟨ks,n,rfl,h1,h2,⟨a1,c1,m1,rfl,p1,⟨a2,c2,m2,rfl,p2,⟨a3,c3,m3,rfl,p3,_,h0⟩⟩⟩,h4,h5⟩:=hp;have:=BU p1;have:=BU p2;have:=BU p3;exact .di (aF _ _ _ p1 (λx v q1 q2=>hR x v (by omega) (by omega))) (bu _ _ _ p2 (λx v q1 q2=>hR x v (by omega) (by omega))) (fe _ _ _ p3 (λx v q1 q2=>hR x v (by omega) (by omega)))
 | two hk _ _ aF bu =>
  intro ms lo hi hp hR;simp only[bG,ba] at hp;obtain⟨ks,n,rfl,h1,h2,⟨a1,c1,m1,rfl,p1,⟨a2,c2,m2,rfl,p2,_,h0⟩⟩,h4,h5⟩:=hp;have:=BU p1;have:=BU p2;exact .two hk (aF _ _ _ p1 (λx v q1 q2=>hR x v (by omega) (by omega))) (bu _ _ _ p2 (λx v q1 q2=>hR x v (by omega) (by omega)))
 | loop _ _ _ aF bu fe =>
  intro ms lo hi hp hR;simp only[bG,ba] at hp;obtain⟨ks,n,rfl,h1,h2,⟨a1,c1,m1,rfl,p1,⟨a2,c2,m2,rfl,p2,⟨a3,c3,m3,rfl,p3,_,h0⟩⟩⟩,h4,h5⟩:=hp;have:=BU p1;have:=BU p2;have:=BU p3;exact .loop (aF _ _ _ p1 (λx v q1 q2=>hR x v (by omega) (by omega))) (bu _ _ _ p2 (λx v q1 q2=>hR x v (by omega) (by omega))) (fe _ _ _ p3 (λx v q1 q2=>hR x v (by omega) (by omega)))
 | new _ aF =>
  intro ms lo hi hp hR;exact .new (aF ms lo hi hp hR)
def R0:Nat->Int->Prop:=λ_ v=>0<=v
theorem Xf {e q:PT} (h:ni R0 e q):∀ (ms:List NR) (lo hi:Nat),bG e ms lo hi->∃ ρ,Pl ρ e q:=by
 have BU:∀ {t:PT} {a:List NR} {lo mid:Nat},bG t a lo mid->lo<mid:=λ{t a lo mid} h=>by
  obtain⟨n0,hn0,_⟩:=nN h;have:=bG.zV h n0 (List.mem_of_getElem? hn0);omega
 induction h with
 | num h=>intros;exact⟨λ_=>0,.num h⟩
 | name=>intros;exact⟨λ_=>0,.name⟩
 | aP _ _ aF bu =>
  intro ms lo hi hp;simp only[bG,ba] at hp;obtain⟨ks,n,rfl,h1,h2,⟨a1,c1,m1,rfl,p1,⟨a2,c2,m2,rfl,p2,_,h0⟩⟩,h4,h5⟩:=hp;obtain⟨ρ1,k1⟩:=aF _ _ _ p1;obtain⟨ρ2,k2⟩:=bu _ _ _ p2;refine⟨λx=>if x<m1 then ρ1 x else ρ2 x,.aP (k1.mono _ _ _ p1 (λx v q1 q2 hv=>?_)) (k2.mono _ _ _ p2 (λx v q1 q2 hv=>?_))⟩
  ·show v=_
   simp only[if_pos q2];exact hv
  ·have z1:¬ x<m1:=by omega
   show v=_
   simp only[if_neg z1];exact hv
 | @pair p q nm nk rg gU a b a' b' hr _ _ aF bu =>
  intro ms lo hi hp;simp only[bG,ba] at hp;obtain⟨ks,n,rfl,h1,h2,⟨a1,c1,m1,rfl,p1,⟨a2,c2,m2,rfl,p2,_,h0⟩⟩,h4,h5⟩:=hp;obtain⟨ρ1,k1⟩:=aF _ _ _ p1;obtain⟨ρ2,k2⟩:=bu _ _ _ p2;have:=BU p1;have hr0:0<=ak gU:=hr;refine⟨λx=>if x=p then (ak gU).toNat else if x<m1 then ρ1 x else ρ2 x,.pair ?_ (k1.mono _ _ _ p1 (λx v q1 q2 hv=>?_)) (k2.mono _ _ _ p2 (λx v q1 q2 hv=>?_))⟩
  ·show ak gU=_
   simp only[if_true];omega
  ·have z0:¬ x=p:=by omega
   show v=_
   simp only[if_neg z0,if_pos q2];exact hv
  ·have z0:¬ x=p:=by omega
   have z1:¬ x<m1:=by omega
   show v=_
   simp only[if_neg z0,if_neg z1];exact hv
 | fst _ aF =>
  intro ms lo hi hp;simp only[bG,ba] at hp;obtain⟨ks,n,rfl,h1,h2,⟨a1,c1,m1,rfl,p1,_,h0⟩,h4,h5⟩:=hp;obtain⟨ρ1,k1⟩:=aF _ _ _ p1;exact⟨ρ1,.fst k1⟩
 | snd _ aF =>
  intro ms lo hi hp;simp only[bG,ba] at hp;obtain⟨ks,n,rfl,h1,h2,⟨a1,c1,m1,rfl,p1,_,h0⟩,h4,h5⟩:=hp;obtain⟨ρ1,k1⟩:=aF _ _ _ p1;exact⟨ρ1,.snd k1⟩
 | di _ _ _ aF bu fe =>
  intro ms lo hi hp;simp only[bG,ba] at hp;obtain⟨ks,n,rfl,h1,h2,⟨a1,c1,m1,rfl,p1,⟨a2,c2,m2,rfl,p2,⟨a3,c3,m3,rfl,p3,_,h0⟩⟩⟩,h4,h5⟩:=hp;obtain⟨ρ1,k1⟩:=aF _ _ _ p1;obtain⟨ρ2,k2⟩:=bu _ _ _ p2;obtain⟨ρ3,k3⟩:=fe _ _ _ p3;have:=BU p1;have:=BU p2;refine⟨λx=>if x<m1 then ρ1 x else if x<m2 then ρ2 x else ρ3 x,.di (k1.mono _ _ _ p1 (λx v q1 q2 hv=>?_)) (k2.mono _ _ _ p2 (λx v q1 q2 hv=>?_)) (k3.mono _ _ _ p3 (λx v q1 q2 hv=>?_))⟩
  ·show v=_
   simp only[if_pos q2];exact hv
  ·have z1:¬ x<m1:=by omega
   show v=_
   simp only[if_neg z1,if_pos q2];exact hv
  ·have z1:¬ x<m1:=by omega
   have z2:¬ x<m2:=by omega
   show v=_
   simp only[if_neg z1,if_neg z2];exact hv
 | two hk _ _ aF bu =>
  intro ms lo hi hp;simp only[bG,ba] at hp;obtain⟨ks,n,rfl,h1,h2,⟨a1,c1,m1,rfl,p1,⟨a2,c2,m2,rfl,p2,_,h0⟩⟩,h4,h5⟩:=hp;obtain⟨ρ1,k1⟩:=aF _ _ _ p1;obtain⟨ρ2,k2⟩:=bu _ _ _ p2;refine⟨λx=>if x<m1 then ρ1 x else ρ2 x,.two hk (k1.mono _ _ _ p1 (λx v q1 q2 hv=>?_)) (k2.mono _ _ _ p2 (λx v q1 q2 hv=>?_))⟩
  ·show v=_
   simp only[if_pos q2];exact hv
  ·have z1:¬ x<m1:=by omega
   show v=_
   simp only[if_neg z1];exact hv
 | loop _ _ _ aF bu fe =>
  intro ms lo hi hp;simp only[bG,ba] at hp;obtain⟨ks,n,rfl,h1,h2,⟨a1,c1,m1,rfl,p1,⟨a2,c2,m2,rfl,p2,⟨a3,c3,m3,rfl,p3,_,h0⟩⟩⟩,h4,h5⟩:=hp;obtain⟨ρ1,k1⟩:=aF _ _ _ p1;obtain⟨ρ2,k2⟩:=bu _ _ _ p2;obtain⟨ρ3,k3⟩:=fe _ _ _ p3;have:=BU p1;have:=BU p2;refine⟨λx=>if x<m1 then ρ1 x else if x<m2 then ρ2 x else ρ3 x,.loop (k1.mono _ _ _ p1 (λx v q1 q2 hv=>?_)) (k2.mono _ _ _ p2 (λx v q1 q2 hv=>?_)) (k3.mono _ _ _ p3 (λx v q1 q2 hv=>?_))⟩
  ·show v=_
   simp only[if_pos q2];exact hv
  ·have z1:¬ x<m1:=by omega
   show v=_
   simp only[if_neg z1,if_pos q2];exact hv
  ·have z1:¬ x<m1:=by omega
   have z2:¬ x<m2:=by omega
   show v=_
   simp only[if_neg z1,if_neg z2];exact hv
 | new _ aF =>
  intro ms lo hi hp;obtain⟨ρ1,k1⟩:=aF ms lo hi hp;exact⟨ρ1,.new k1⟩
inductive Cm (f:Int->Int) (NP NQ:List Int):List Int->List Int->PT->PT->Prop
 | num {rp rq:List Int} {p q:Nat} {s s':List UInt8} (h:ak s=ak s'):Cm f NP NQ rp rq (.num p s) (.num q s')
 | name {rp rq:List Int} {p q:Nat} {s:List UInt8}:Cm f NP NQ rp rq (.name p s) (.name q s)
 | aP {rp rq:List Int} {p q:Nat} {nm rg gU:List UInt8} {a b a' b':PT} (ha:Cm f NP NQ rp rq a a') (hb:Cm f NP NQ rp rq b b'):Cm f NP NQ rp rq (.node p .aP nm rg [a,b]) (.node q .aP nm gU [a',b'])
 | pair {rp rq:List Int} {p q:Nat} {nm nk rg gU:List UInt8} {a b a' b':PT} (hr:ak rg∈rp\/ak rg∈NP) (hr':f (ak rg)∈rq\/f (ak rg)∈NQ) (he:f (ak rg)=ak gU) (ha:Cm f NP NQ rp rq a a') (hb:Cm f NP NQ rp rq b b'):Cm f NP NQ rp rq (.node p .pair nm rg [a,b]) (.node q .pair nk gU [a',b'])
 | fst {rp rq:List Int} {p q:Nat} {nm nk rg gU:List UInt8} {a a':PT} (ha:Cm f NP NQ rp rq a a'):Cm f NP NQ rp rq (.node p .fst nm rg [a]) (.node q .fst nk gU [a'])
 | snd {rp rq:List Int} {p q:Nat} {nm nk rg gU:List UInt8} {a a':PT} (ha:Cm f NP NQ rp rq a a'):Cm f NP NQ rp rq (.node p .snd nm rg [a]) (.node q .snd nk gU [a'])
 | di {rp rq:List Int} {p q:Nat} {nm nk rg gU:List UInt8} {a b c a' b' c':PT} (ha:Cm f NP NQ rp rq a a') (hb:Cm f NP NQ rp rq b b') (hc:Cm f NP NQ rp rq c c'):Cm f NP NQ rp rq (.node p .di nm rg [a,b,c]) (.node q .di nk gU [a',b',c'])
 | two {rp rq:List Int} {p q:Nat} {k:Kw} {nm nk rg gU:List UInt8} {a b a' b':PT} (hk:k=.add\/k=.sub\/k=.less) (ha:Cm f NP NQ rp rq a a') (hb:Cm f NP NQ rp rq b b'):Cm f NP NQ rp rq (.node p k nm rg [a,b]) (.node q k nk gU [a',b'])
 | loop {rp rq:List Int} {p q:Nat} {nm rg gU:List UInt8} {a b c a' b' c':PT} (ha:Cm f NP NQ rp rq a a') (hb:Cm f NP NQ rp rq b b') (hc:Cm f NP NQ rp rq c c'):Cm f NP NQ rp rq (.node p .loop nm rg [a,b,c]) (.node q .loop nm gU [a',b',c'])
 | SL {rp rq:List Int} {p:Nat} {nm rg:List UInt8} {a t':PT} (hk:ak rg ∉ rp) (hn:ak rg ∉ NP) (ha:Cm f NP NQ (rp++[ak rg]) rq a t'):Cm f NP NQ rp rq (.node p .new nm rg [a]) t'
 | SN {rp rq:List Int} {q:Nat} {nm rg:List UInt8} {t a':PT} (hk:ak rg ∉ rq) (hn:ak rg ∉ NQ) (hx:∀ x,x∈rp\/x∈NP->f x≠ak rg) (ha:Cm f NP NQ rp (rq++[ak rg]) t a'):Cm f NP NQ rp rq t (.node q .new nm rg [a'])
theorem Cm.wt {f:Int->Int} {NP NQ rp rq:List Int} {t t':PT} (h:Cm f NP NQ rp rq t t'):∀ {G:aV} {T:Ty},WT G t T->WT G t' T:=by
 induction h with
 | num h=>intro G T hw;cases hw;exact .num
 | name=>intro G T hw;cases hw with | name h=>exact .name h
 | aP _ _ aF bu=>intro G T hw;cases hw with | aP wa wb=>exact .aP (aF wa) (bu wb) | two hk=>simp at hk
 | pair _ _ _ _ _ aF bu=>intro G T hw;cases hw with | pair wa wb hs=>exact .pair (aF wa) (bu wb) hs | two hk=>simp at hk
 | fst _ aF=>intro G T hw;cases hw with | fst wa=>exact .fst (aF wa)
 | snd _ aF=>intro G T hw;cases hw with | snd wa=>exact .snd (aF wa)
 | di _ _ _ aF bu fe=>intro G T hw;cases hw with | di wa wb wc=>exact .di (aF wa) (bu wb) (fe wc)
 | two hk _ _ aF bu =>
  intro G T hw
  cases hw with
  | two _ wa wb=>exact .two hk (aF wa) (bu wb)
  | aP _ _=>simp at hk
  | pair _ _ _=>simp at hk
 | loop _ _ _ aF bu fe=>intro G T hw;cases hw with | loop wa wb wc=>exact .loop (aF wa) (bu wb) (fe wc)
 | SL _ _ _ aF=>intro G T hw;cases hw with | new wa=>exact aF wa
 | SN _ _ _ _ aF=>intro G T hw;exact .new (aF hw)
theorem uG {fuel p q:Nat} {k:Kw} {nm nk rg gU:List UInt8} {kids nK:List PT} (h1:k≠.aP) (h2:k≠.di) (h3:k≠.loop) (h:bM fuel nK=bM fuel kids):ev fuel (.node q k nk gU nK)=ev fuel (.node p k nm rg kids):=by
 funext env st
 simp only[ev,if_neg h1,if_neg h2,if_neg h3];rw[h]
theorem Cm.Xg {f:Int->Int} {NP NQ rp rq:List Int} {t t':PT} (fuel:Nat) (h:Cm f NP NQ rp rq t t'):ev fuel t'.era=ev fuel t.era:=by
 induction h with
 | num h=>funext env st;simp only[PT.era,ev,h]
 | name=>funext env st;simp only[PT.era,ev]
 | aP _ _ aF bu=>funext env st;simp only[PT.era,eI,reduceCtorEq,if_false,ev,gM,if_true,aF,bu]
 | pair _ _ _ _ _ aF bu =>
  simp only[PT.era,eI,reduceCtorEq,if_false];exact uG (by decide) (by decide) (by decide) (by funext env st;simp only[bM,aF,bu])
 | fst _ aF =>
  simp only[PT.era,eI,reduceCtorEq,if_false];exact uG (by decide) (by decide) (by decide) (by funext env st;simp only[bM,aF])
 | snd _ aF =>
  simp only[PT.era,eI,reduceCtorEq,if_false];exact uG (by decide) (by decide) (by decide) (by funext env st;simp only[bM,aF])
 | di _ _ _ aF bu fe=>funext env st;simp only[PT.era,eI,reduceCtorEq,if_false,ev,mw,if_true,aF,bu,fe]
 | two hk _ _ aF bu =>
  rcases hk with rfl | rfl | rfl
  all_goals
   simp only[PT.era,eI,reduceCtorEq,if_false];exact uG (by decide) (by decide) (by decide) (by funext env st;simp only[bM,aF,bu])
 | loop _ _ _ aF bu fe=>funext env st;simp only[PT.era,eI,reduceCtorEq,if_false,ev,eu,if_true,aF,bu,fe]
 | SL _ _ _ aF=>rw[aF];simp only[PT.era,eI,if_true,List.headD_cons]
 | SN _ _ _ _ aF=>simp only[PT.era,eI,if_true,List.headD_cons];exact aF
structure Jm (m:MM) (rs M:List Int):Prop where
 len:m.regs.length=rs.length+1
 PU:(m.regs.drop 1).map (·.num)=rs
 nd:rs.Nodup
 live:m.live=M.length
 cells:∀ (i:Nat) (g:MR),1<=i->m.regs[i]?=some g->g.cells=M.count g.num
theorem Jm.of {m m':MM} {rs M:List Int} (h:Jm m rs M) (h1:m'.regs=m.regs) (h2:m'.live=m.live):Jm m' rs M:=⟨by rw[h1];exact h.len,by rw[h1];exact h.PU,h.nd,by rw[h2];exact h.live,by rw[h1];exact h.cells⟩
theorem Jm.at {m:MM} {rs M:List Int} (h:Jm m rs M) {i:Nat} {g:MR} (hi:m.regs[i+1]?=some g):rs[i]?=some g.num:=by
 rw[<- h.PU,List.getElem?_map,List.getElem?_drop,show 1+i=i+1 by omega,hi];rfl
theorem Jm.opn {m:MM} {rs M:List Int} (h:Jm m rs M) {k:Int} (hk:k ∉ rs) (hM:k ∉ M):Jm (m.opn k) (rs++[k]) M:=by
 have hl:=h.len;refine⟨by simp[MM.opn,hl],?_,?_,h.live,λi g hi hg=>?_⟩
 ·simp only[MM.opn]
  rw[List.drop_append_of_le_length (by omega),List.map_append,h.PU];rfl
 ·rw[List.nodup_append]
  refine⟨h.nd,by simp,λa ha b hb=>?_⟩;simp only[List.mem_singleton] at hb;intro e;exact hk (by rw[<- hb,<- e];exact ha)
 ·simp only[MM.opn] at hg
  by_cases hlt:i<m.regs.length
  ·rw[List.getElem?_append_left hlt] at hg
   exact h.cells i g hi hg
  ·have mG:=(List.getElem?_eq_some_iff.1 hg).1
   simp only[List.length_append,List.length_singleton] at mG
   have:i=m.regs.length:=by omega
   subst this;rw[List.getElem?_append_right (Nat.le_refl _),Nat.sub_self] at hg;simp only[List.getElem?_cons_zero,Option.some.injEq] at hg;subst hg;exact (List.count_eq_zero.2 hM).symm
theorem Jm.fin {m:MM} {rs M:List Int} {k:Int} (h:Jm m (rs++[k]) M):Jm m.fin rs (M.filter (λx=>decide (x≠k))):=by
 have hl:=h.len;simp only[List.length_append,List.length_singleton] at hl
 have hlt:rs.length+1<m.regs.length:=by omega
 have hg:m.regs[rs.length+1]?=some m.regs[rs.length+1]:=List.getElem?_eq_getElem hlt
 have hgk:(m.regs[rs.length+1]).num=k:=by
  have:=h.at hg;rw[List.getElem?_append_right (Nat.le_refl _),Nat.sub_self] at this
  simpa using this.symm
 have hlast:m.regs.getLast?=some m.regs[rs.length+1]:=by
  rw[List.getLast?_eq_getElem?,show m.regs.length-1=rs.length+1 by omega];exact hg
 have nF:=h.cells (rs.length+1) _ (by omega) hg;rw[hgk] at nF;have hnd:=h.nd;rw[List.nodup_append] at hnd
 have hfl:(M.filter (λx=>decide (x≠k))).length+M.count k=M.length:=by
  clear nF h
  induction M with
  | nil=>rfl
  | cons x r ih =>
   simp only[List.filter_cons,List.count_cons,List.length_cons]
   by_cases e:x=k
   ·have e1:decide (x≠k)=false:=by simp[e]
    have e2:(x==k)=true:=by simp[e]
    rw[e1,e2];simp only[Bool.false_eq_true,if_false,if_true];omega
   ·have e1:decide (x≠k)=true:=by simp[e]
    have e2:(x==k)=false:=by rw[beq_eq_false_iff_ne];exact e
    rw[e1,e2];simp only[Bool.false_eq_true,if_false,if_true,List.length_cons];omega
 have acN:=h.live;unfold MM.fin;rw[hlast];refine⟨by simp;omega,?_,hnd.1,by simp only;omega,λi g hi GD=>?_⟩
 ·simp only
  have:=h.PU;rw[List.dropLast_eq_take,List.drop_take,List.map_take,this,show m.regs.length-1-1=rs.length by omega,List.take_left]
 ·simp only at GD
  rw[List.getElem?_dropLast] at GD
  split at GD
  ·obtain⟨j,rfl⟩:∃ j,i=j+1:=⟨i-1,by omega⟩
   have hn:=h.at GD;rw[List.getElem?_append_left (by omega)] at hn
   have hne:g.num≠k:=λe=>hnd.2.2 g.num (List.mem_of_getElem? hn) k (by simp) e
   rw[h.cells _ _ hi GD];rw[List.count_filter (by simp[hne])]
  ·cases GD
theorem Jm.cell {m:MM} {rs M:List Int} (h:Jm m rs M) (k:Int) (a b:MV):Jm (m.bb k a b).2 rs (k::M)/\(m.bb k a b).2.most=(if m.most<m.live+1 then m.live+1 else m.most):=by
 have hl:=h.len
 have MJ:m.home k<m.regs.length:=by
  have:=vH m.regs k (m.regs.length-1);unfold MM.home;omega
 have hg:m.regs[m.home k]?=some m.regs[m.home k]:=List.getElem?_eq_getElem MJ;have hn:=zI m.regs k (m.regs.length-1);unfold MM.bb;rw[hg];refine⟨⟨by simp[hl],?_,h.nd,?_,λi g hi GD=>?_⟩,rfl⟩
 ·simp only
  rw[<- h.PU]
  apply List.ext_getElem?
  intro j;simp only[List.getElem?_map,List.getElem?_drop]
  by_cases hj:m.home k=1+j
  ·rw[<- hj,List.getElem?_set_self MJ,hg];rfl
  ·rw[List.getElem?_set_ne hj]
 ·simp only[List.length_cons];rw[h.live];omega
 ·simp only at GD
  by_cases hj:m.home k=i
  ·subst hj
   rw[List.getElem?_set_self MJ] at GD;simp only[Option.some.injEq] at GD;subst GD
   have hk:(m.regs[m.home k]).num=k:=by
    rcases hn with hn | hn
    ·have:m.regs[m.home k]?.map (·.num)=some k:=hn
     rw[hg] at this;simpa using this
    ·have:m.home k=0:=hn
     omega
   simp only;rw[hk,List.count_cons_self,h.cells _ _ hi hg,hk]
  ·rw[List.getElem?_set_ne hj] at GD
   have hne:g.num≠k:=by
    intro e;have hp:1<=m.home k:=BN _ i g hi (by have:=(List.getElem?_eq_some_iff.1 GD).1;omega) GD e
    have hk:(m.regs[m.home k]).num=k:=by
     rcases hn with hn | hn
     ·have:m.regs[m.home k]?.map (·.num)=some k:=hn
      rw[hg] at this;simpa using this
     ·have:m.home k=0:=hn
      omega
    obtain⟨j,rfl⟩:∃ j,i=j+1:=⟨i-1,by omega⟩;obtain⟨j',hj'⟩:∃ j',m.home k=j'+1:=⟨m.home k-1,by omega⟩;have h1:=h.at GD
    have h2:rs[j']?=some k:=by
     have:=h.at (i:=j') (g:=m.regs[m.home k]) (by rw[<- hj'];exact hg);rw[hk] at this;exact this
    rw[e] at h1;have l1:=(List.getElem?_eq_some_iff.1 h1).1;have:=(List.getElem?_inj l1 h.nd).1 (h1.trans h2.symm);omega
   rw[List.count_cons_of_ne (Ne.symm hne)];exact h.cells i g hi GD
structure Jt (f:Int->Int) (NP NQ rp rq:List Int) (m m':MM):Prop where
 ex:∃ L L':List Int,L.Sublist L'/\Jm m rp L/\Jm m' rq (L'.map f)/\(∀ x∈L,x∈rp\/x∈NP)/\(∀ x∈L',f x∈rq\/f x∈NQ)
 most:m.most<=m'.most
theorem Jt.of {f:Int->Int} {NP NQ rp rq:List Int} {m m' n n':MM} (h:Jt f NP NQ rp rq m m') (h1:n.regs=m.regs) (h2:n.live=m.live) (h3:n.most=m.most) (h1':n'.regs=m'.regs) (h2':n'.live=m'.live) (h3':n'.most=m'.most):Jt f NP NQ rp rq n n':=by
 obtain⟨L,L',g1,g2,g3,g4,g5⟩:=h.ex;exact⟨⟨L,L',g1,g2.of h1 h2,g3.of h1' h2',g4,g5⟩,by rw[h3,h3'];exact h.most⟩
theorem lF (m:MM) (i:Int) (v:MV):(m.name i v).regs=m.regs/\(m.name i v).live=m.live/\(m.name i v).most=m.most:=by unfold MM.name;split <;> exact⟨rfl,rfl,rfl⟩
theorem nP (m:MM) (v:MV):(m.use v).2.regs=m.regs/\(m.use v).2.live=m.live/\(m.use v).2.most=m.most:=by
 unfold MM.use MM.stop
 split
 ·exact⟨rfl,rfl,rfl⟩
 ·simp only
  split
  ·exact⟨rfl,rfl,rfl⟩
  ·split <;> exact⟨rfl,rfl,rfl⟩
theorem Jt.name {f:Int->Int} {NP NQ rp rq:List Int} {m m':MM} (h:Jt f NP NQ rp rq m m') (i i':Int) (v v':MV):Jt f NP NQ rp rq (m.name i v) (m'.name i' v') :=
 h.of (lF m i v).1 (lF m i v).2.1 (lF m i v).2.2 (lF m' i' v').1 (lF m' i' v').2.1 (lF m' i' v').2.2
theorem Jt.use {f:Int->Int} {NP NQ rp rq:List Int} {m m':MM} (h:Jt f NP NQ rp rq m m') (v v':MV):Jt f NP NQ rp rq (m.use v).2 (m'.use v').2 :=
 h.of (nP m v).1 (nP m v).2.1 (nP m v).2.2 (nP m' v').1 (nP m' v').2.1 (nP m' v').2.2
theorem Jt.le {f:Int->Int} {NP NQ rp rq:List Int} {m m':MM} (h:Jt f NP NQ rp rq m m'):m.live<=m'.live:=by
 obtain⟨L,L',g1,g2,g3,_,_⟩:=h.ex;have:=g1.length_le;rw[g2.live,g3.live,List.length_map];omega
theorem Jt.cell {f:Int->Int} {NP NQ rp rq:List Int} {m m':MM} (h:Jt f NP NQ rp rq m m') {k k':Int} (hk:k∈rp\/k∈NP) (hk':f k∈rq\/f k∈NQ) (e:f k=k') (a b a' b':MV):Jt f NP NQ rp rq (m.bb k a b).2 (m'.bb k' a' b').2:=by
 have hle:=h.le;have hmo:=h.most;obtain⟨L,L',g1,g2,g3,g4,g5⟩:=h.ex;obtain⟨c1,c2⟩:=g2.cell k a b;obtain⟨d1,d2⟩:=g3.cell k' a' b';refine⟨⟨k::L,k::L',g1.cons_cons k,c1,by rw[List.map_cons,e];exact d1,λx hx=>?_,λx hx=>?_⟩,?_⟩
 ·rcases List.mem_cons.1 hx with hx | hx
  ·rw[hx];exact hk
  ·exact g4 x hx
 ·rcases List.mem_cons.1 hx with hx | hx
  ·rw[hx];exact hk'
  ·exact g5 x hx
 ·rw[c2,d2]
  split <;> split <;> omega
theorem Jt.ab7 {f:Int->Int} {NP NQ rp rq:List Int} {m m':MM} (h:Jt f NP NQ rp rq m m') {k:Int} (hk:k ∉ rp) (hn:k ∉ NP):Jt f NP NQ (rp++[k]) rq (m.opn k) m':=by
 obtain⟨L,L',g1,g2,g3,g4,g5⟩:=h.ex;refine⟨⟨L,L',g1,g2.opn hk (λhx=>?_),g3,λx hx=>?_,g5⟩,h.most⟩
 ·rcases g4 k hx with h | h
  ·exact hk h
  ·exact hn h
 ·rcases g4 x hx with h | h
  ·exact Or.inl (by simp[h])
  ·exact Or.inr h
theorem Jt.ab8 {f:Int->Int} {NP NQ rp rq:List Int} {m m':MM} (h:Jt f NP NQ rp rq m m') {k:Int} (hk:k ∉ rq) (hn:k ∉ NQ):Jt f NP NQ rp (rq++[k]) m (m'.opn k):=by
 obtain⟨L,L',g1,g2,g3,g4,g5⟩:=h.ex;refine⟨⟨L,L',g1,g2,g3.opn hk (λhx=>?_),g4,λx hx=>?_⟩,h.most⟩
 ·obtain⟨y,hy,e⟩:=List.mem_map.1 hx
  rcases g5 y hy with h | h
  ·exact hk (e ▸ h)
  ·exact hn (e ▸ h)
 ·rcases g5 x hx with h | h
  ·exact Or.inl (by simp[h])
  ·exact Or.inr h
theorem FM (m:MM):m.fin.most=m.most:=by unfold MM.fin;split <;> rfl
theorem Jt.ab9 {f:Int->Int} {NP NQ rp rq:List Int} {m m':MM} {k:Int} (h:Jt f NP NQ (rp++[k]) rq m m'):Jt f NP NQ rp rq m.fin m':=by
 obtain⟨L,L',g1,g2,g3,g4,g5⟩:=h.ex;refine⟨⟨L.filter (λx=>decide (x≠k)),L',List.filter_sublist.trans g1,g2.fin,g3,λx hx=>?_,g5⟩,by rw[FM];exact h.most⟩;obtain⟨h1,h2⟩:=List.mem_filter.1 hx
 rcases g4 x h1 with h | h
 ·rcases List.mem_append.1 h with h | h
  ·exact Or.inl h
  ·simp only[List.mem_singleton] at h
   subst h;simp at h2
 ·exact Or.inr h
theorem Jt.aca {f:Int->Int} {NP NQ rp rq:List Int} {m m':MM} {k:Int} (h:Jt f NP NQ rp (rq++[k]) m m') (hx:∀ x,x∈rp\/x∈NP->f x≠k):Jt f NP NQ rp rq m m'.fin:=by
 obtain⟨L,L',g1,g2,g3,g4,g5⟩:=h.ex;have g6:=g3.fin;rw[List.filter_map] at g6;refine⟨⟨L,L'.filter ((λx=>decide (x≠k)) ∘ f),?_,g2,g6,g4,λx hx=>?_⟩,by rw[FM];exact h.most⟩
 ·have e:L.filter ((λx=>decide (x≠k)) ∘ f)=L:=List.filter_eq_self.2 (λx hL=>by simpa using hx x (g4 x hL))
  rw[<- e];exact g1.filter _
 ·obtain⟨h1,h2⟩:=List.mem_filter.1 hx
  rcases g5 x h1 with h | h
  ·rcases List.mem_append.1 h with h | h
   ·exact Or.inl h
   ·simp only[List.mem_singleton] at h
    simp[h] at h2
  ·exact Or.inr h
end Go.Proofs.YtpicaknklgccoabGreatDoor
