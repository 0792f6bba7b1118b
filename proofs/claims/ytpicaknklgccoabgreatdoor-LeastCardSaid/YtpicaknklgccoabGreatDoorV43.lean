import Derived.Test.YtpicaknklgccoabGreatDoorV42
set_option maxHeartbeats 1000000
set_option maxRecDepth 100000
namespace Go.Proofs.YtpicaknklgccoabGreatDoor
open Go.Lib (decDigits)
theorem Dn {f:Int->Int} {N NP NQ rq:List Int} {q core:PT} {i:Nat} (GF:∀ x∈NP,∃ r:Nat,x=(r:Int)/\r<N.length/\∀ i:Nat,N[r]?≠some (i:Int)):∀ (l:List Int) (r:Nat) (rp:List Int),(∀ k,l[k]?=N[r+k]?)->(∃ rs,bN rs (fL l r i core)/\∀ x∈rs,x∈rp\/x∈NP)->(∀ x∈rp,∃ r' i':Nat,x=(r':Int)/\N[r']?=some (i':Int)/\(i'≠i\/r'<r)) ->
  (∀ rE:List Int,(∃ rs,bN rs core/\∀ x∈rs,x∈rE\/x∈NP)->(∀ x∈rE,x∈rp\/∃ r':Nat,x=(r':Int)/\N[r']?=some (i:Int))->Cm f NP NQ rE rq core q)->Cm f NP NQ rp rq (fL l r i core) q
 | [],r,rp,_,hc,_,K=>K rp hc (λx hx=>Or.inl hx)
 | a::l,r,rp,hl,hc,JT,K=>by
  have hl':∀ k,l[k]?=N[r+1+k]?:=λk=>by rw[show r+1+k=r+(k+1) by omega,<- hl (k+1)];simp
  have h0:N[r]?=some a:=by have:=hl 0;simpa using this.symm
  simp only[fL] at hc ⊢
  by_cases e:a=(i:Int)
  ·rw[if_pos e] at hc ⊢
   obtain⟨rs,hc1,hc2⟩:=hc;simp only[bN,cz,if_true,and_true] at hc1;have hv:ak (35::decDigits r)=(r:Int):=qB r;refine .SL ?_ ?_ (Dn GF l (r+1) _ hl' ⟨_,hc1.2,λx hx=>?_⟩ (λx hx=>?_) (λrE hc' gY=>K rE hc' (λx hx=>?_)))
   ·rw[hv]
    intro hm;obtain⟨r',i',e1,e2,e3⟩:=JT _ hm
    have:r'=r:=by omega
    subst this;rw[h0,e] at e2;simp only[Option.some.injEq] at e2;omega
   ·rw[hv]
    intro hm;obtain⟨r',e1,_,e2⟩:=GF _ hm
    have:r'=r:=by omega
    subst this;exact e2 i (by rw[h0,e])
   ·rcases List.mem_cons.1 hx with hx | hx
    ·exact Or.inl (by simp[hx])
    ·rcases hc2 x hx with h | h
     ·exact Or.inl (by simp[h])
     ·exact Or.inr h
   ·rcases List.mem_append.1 hx with hx | hx
    ·obtain⟨r',i',e1,e2,e3⟩:=JT x hx
     exact⟨r',i',e1,e2,by omega⟩
    ·simp only[List.mem_singleton,hv] at hx
     exact⟨r,i,hx,by rw[h0,e],by omega⟩
   ·rcases gY x hx with h | h
    ·rcases List.mem_append.1 h with h | h
     ·exact Or.inl h
     ·simp only[List.mem_singleton,hv] at h
      exact Or.inr ⟨r,h,by rw[h0,e]⟩
    ·exact Or.inr h
  ·rw[if_neg e] at hc ⊢
   exact Dn GF l (r+1) rp hl' hc (λx hx=>by
    obtain⟨r',i',e1,e2,e3⟩:=JT x hx
    exact⟨r',i',e1,e2,by omega⟩) K
structure Cx (R N:List Int) (f:Int->Int) (NP NQ:List Int) (e q:PT) (b:Nat) (rp rq:List Int):Prop where
 cp:∃ rs,bN rs (e.lay R N b)/\∀ x∈rs,x∈rp\/x∈NP
 rp:∀ x∈rp,∃ r i:Nat,x=(r:Int)/\N[r]?=some (i:Int)/\(i<b\/b+e.cnt<=i)
 cq:∃ rs,bN rs q/\∀ x∈rs,x∈rq\/x∈NQ
 nd:q.tG.Nodup
 nq:∀ x∈q.tG,x ∉ rq/\x ∉ NQ
 st:∀ (k:Int) (x y:Nat),(k,x,y)∈q.qF b->∀ j:Nat,j<N.length->f j=k->∃ h:Nat,N[j]?=some (h:Int)/\x<=h/\h<x+y
theorem Cx.core {R N:List Int} {f:Int->Int} {NP NQ:List Int} {e q:PT} {b:Nat} {rp rq:List Int} (GF:∀ x∈NP,∃ r:Nat,x=(r:Int)/\r<N.length/\∀ i:Nat,N[r]?≠some (i:Int)) (h:Cx R N f NP NQ e q b rp rq)
  (K:∀ rE:List Int,(∃ rs,bN rs (e.gi R N b)/\∀ x∈rs,x∈rE\/x∈NP)->(∀ x∈rE,∃ r i:Nat,x=(r:Int)/\N[r]?=some (i:Int)/\(i<b\/b+e.cnt-1<=i))->Cm f NP NQ rE rq (e.gi R N b) q):Cm f NP NQ rp rq (e.lay R N b) q:=by
 have hc:=cV e
 have Ec:(((b+e.cnt:Nat):Int)-1)=((b+e.cnt-1:Nat):Int):=by omega
 have Yb:=h.cp;unfold PT.lay at Yb ⊢;rw[Ec] at Yb ⊢;refine Dn GF N 0 rp (λk=>by rw[Nat.zero_add]) Yb (λx hx=>?_) (λrE hc' gY=>K rE hc' (λx hx=>?_))
 ·obtain⟨r,i,e1,e2,e3⟩:=h.rp x hx
  exact⟨r,i,e1,e2,by omega⟩
 ·rcases gY x hx with hx | ⟨r,e1,e2⟩
  ·obtain⟨r,i,e1,e2,e3⟩:=h.rp x hx
   exact⟨r,i,e1,e2,by omega⟩
  ·exact⟨r,_,e1,e2,by omega⟩
theorem aaE {R N:List Int} {ns:List NR} {f:Int->Int} {NP NQ:List Int} {ρ:Nat->Nat} (GF:∀ x∈NP,∃ r:Nat,x=(r:Int)/\r<N.length/\∀ i:Nat,N[r]?≠some (i:Int)) (hR:∀ (i:Nat) n,ns[i]?=some n->n.form=4->0<=jW R i/\f (jW R i)=(ρ n.at_:Int)) {e q:PT} (h:Pl ρ e q):e.bQ->∀ (sc:Sc) (b:Nat) (pre ms post:List NR) (rp rq:List Int),NA sc e b ms->ns=pre++(ms++post)->pre.length=b->Cx R N f NP NQ e q b rp rq->Cm f NP NQ rp rq (e.lay R N b) q:=by
 induction h with
 | @num p q s s' h =>
  intro ht sc b pre ms post rp rq aO hns hb hx;refine hx.core GF (λrE hc gY=>?_);simp only[PT.bQ] at ht;simp only[PT.gi];exact .num (by rw[iP,Int.toNat_of_nonneg ht.1];exact h)
 | @name p q s =>
  intro ht sc b pre ms post rp rq aO hns hb hx;exact hx.core GF (λrE hc gY=>.name)
 | @aP p q nm rg gU a b a' b' ha hb aF bu =>
  intro ht sc bs pre ms post rp rq aO hns hbs hx;simp only[PT.bQ,bH] at ht;simp only[NA,bU,cK,Bool.false_eq_true,if_false,if_true] at aO;obtain⟨ks,aL,⟨a1,c1,ct,⟨a2,c2,eZ,⟨_,rfl⟩,rfl⟩,rfl⟩,rfl⟩:=aO;rw[List.append_nil] at hns;have la:=NA.len ct;refine hx.core GF (λrE hc gY=>?_);obtain⟨rs,hc,nj⟩:=hc;obtain⟨A0,tr,wS⟩:=hx.cq;simp only[PT.gi,bN,iz,cz,reduceCtorEq,if_false,and_true] at hc tr;have hnd:=hx.nd;have tu:=hx.nq;have hst:=hx.st;simp only[PT.tG,tq,reduceCtorEq,if_false,List.nil_append,List.append_nil,List.nodup_append,List.mem_append] at hnd tu;simp only[PT.qF,jz,reduceCtorEq,if_false,List.nil_append,List.append_nil,List.mem_append,ha.pc] at hst;simp only[PT.cnt,ax,Nat.add_zero] at gY
  exact .aP
   (aF ht.2.1 sc bs pre a1 (a2++([_]++post)) rE rq ct (by rw[hns];simp only[List.append_assoc];rfl) hbs ⟨⟨rs,hc.2.1,nj⟩,λx hx=>by obtain⟨r,i,e1,e2,e3⟩:=gY x hx;exact⟨r,i,e1,e2,by omega⟩,⟨A0,tr.2.1,wS⟩,hnd.1,λx hx=>tu x (Or.inl hx),λk x y hm=>hst k x y (Or.inl hm)⟩)
   (bu ht.2.2.1 _ (bs+a.cnt) (pre++a1) a2 ([_]++post) rE rq eZ (by rw[hns];simp only[List.append_assoc];rfl) (by rw[List.length_append,hbs,la]) ⟨⟨rs,hc.2.2,nj⟩,λx hx=>by obtain⟨r,i,e1,e2,e3⟩:=gY x hx;exact⟨r,i,e1,e2,by omega⟩,⟨A0,tr.2.2,wS⟩,hnd.2.1,λx hx=>tu x (Or.inr hx),λk x y hm=>hst k x y (Or.inr hm)⟩)
 | @pair p q nm nk rg gU a b a' b' hr ha hb aF bu =>
  intro ht sc bs pre ms post rp rq aO hns hbs hx;simp only[PT.bQ,bH] at ht;simp only[NA,bU,cK,Bool.false_eq_true,if_false] at aO;obtain⟨ks,aL,⟨a1,c1,ct,⟨a2,c2,eZ,⟨_,rfl⟩,rfl⟩,rfl⟩,rfl⟩:=aO;rw[List.append_nil] at hns;have la:=NA.len ct;have lb:=NA.len eZ;have hroot:=at_root hns;rw[hbs,List.length_append,la,lb] at hroot;obtain⟨hr0,hr1⟩:=hR _ _ hroot rfl
  have gr:ak (QH R (bs+ax [a,b]))=jW R (bs+(a.cnt+b.cnt)):=by
   simp only[ax,Nat.add_zero];exact BO hr0
  refine hx.core GF (λrE hc gY=>?_);obtain⟨rs,hc,nj⟩:=hc;obtain⟨A0,tr,wS⟩:=hx.cq;simp only[PT.gi,bN,iz,cz,reduceCtorEq,if_false,and_true] at hc tr;have hnd:=hx.nd;have tu:=hx.nq;have hst:=hx.st;simp only[PT.tG,tq,reduceCtorEq,if_false,List.nil_append,List.append_nil,List.nodup_append,List.mem_append] at hnd tu;simp only[PT.qF,jz,reduceCtorEq,if_false,List.nil_append,List.append_nil,List.mem_append,ha.pc] at hst;simp only[PT.cnt,ax,Nat.add_zero] at gY;have hvr:ak gU=(ρ p:Int):=hr
  have R8:f (ak (QH R (bs+ax [a,b])))=ak gU:=by rw[gr,hr1,hvr]
  exact .pair (nj _ (hc.1 trivial)) (by rw[R8];exact wS _ (tr.1 trivial)) R8
   (aF ht.2.1 sc bs pre a1 (a2++([_]++post)) rE rq ct (by rw[hns];simp only[List.append_assoc];rfl) hbs ⟨⟨rs,hc.2.1,nj⟩,λx hx=>by obtain⟨r,i,e1,e2,e3⟩:=gY x hx;exact⟨r,i,e1,e2,by omega⟩,⟨A0,tr.2.1,wS⟩,hnd.1,λx hx=>tu x (Or.inl hx),λk x y hm=>hst k x y (Or.inl hm)⟩)
   (bu ht.2.2.1 _ (bs+a.cnt) (pre++a1) a2 ([_]++post) rE rq eZ (by rw[hns];simp only[List.append_assoc];rfl) (by rw[List.length_append,hbs,la]) ⟨⟨rs,hc.2.2,nj⟩,λx hx=>by obtain⟨r,i,e1,e2,e3⟩:=gY x hx;exact⟨r,i,e1,e2,by omega⟩,⟨A0,tr.2.2,wS⟩,hnd.2.1,λx hx=>tu x (Or.inr hx),λk x y hm=>hst k x y (Or.inr hm)⟩)
 | @fst p q nm nk rg gU a a' ha aF =>
  intro ht sc bs pre ms post rp rq aO hns hbs hx;simp only[PT.bQ,bH] at ht;simp only[NA,bU,cK,Bool.false_eq_true,if_false] at aO;obtain⟨ks,aL,⟨a1,c1,ct,⟨_,rfl⟩,rfl⟩,rfl⟩:=aO;rw[List.append_nil] at hns;refine hx.core GF (λrE hc gY=>?_);obtain⟨rs,hc,nj⟩:=hc;obtain⟨A0,tr,wS⟩:=hx.cq;simp only[PT.gi,bN,iz,cz,reduceCtorEq,if_false,and_true] at hc tr;have hnd:=hx.nd;have tu:=hx.nq;have hst:=hx.st;simp only[PT.tG,tq,reduceCtorEq,if_false,List.nil_append,List.append_nil] at hnd tu;simp only[PT.qF,jz,reduceCtorEq,if_false,List.nil_append,List.append_nil] at hst;simp only[PT.cnt,ax,Nat.add_zero] at gY;exact .fst (aF ht.2.1 sc bs pre a1 ([_]++post) rE rq ct (by rw[hns];simp only[List.append_assoc];rfl) hbs ⟨⟨rs,hc.2,nj⟩,λx hx=>by obtain⟨r,i,e1,e2,e3⟩:=gY x hx;exact⟨r,i,e1,e2,by omega⟩,⟨A0,tr.2,wS⟩,hnd,tu,hst⟩)
 | @snd p q nm nk rg gU a a' ha aF =>
  intro ht sc bs pre ms post rp rq aO hns hbs hx;simp only[PT.bQ,bH] at ht;simp only[NA,bU,cK,Bool.false_eq_true,if_false] at aO;obtain⟨ks,aL,⟨a1,c1,ct,⟨_,rfl⟩,rfl⟩,rfl⟩:=aO;rw[List.append_nil] at hns;refine hx.core GF (λrE hc gY=>?_);obtain⟨rs,hc,nj⟩:=hc;obtain⟨A0,tr,wS⟩:=hx.cq;simp only[PT.gi,bN,iz,cz,reduceCtorEq,if_false,and_true] at hc tr;have hnd:=hx.nd;have tu:=hx.nq;have hst:=hx.st;simp only[PT.tG,tq,reduceCtorEq,if_false,List.nil_append,List.append_nil] at hnd tu;simp only[PT.qF,jz,reduceCtorEq,if_false,List.nil_append,List.append_nil] at hst;simp only[PT.cnt,ax,Nat.add_zero] at gY;exact .snd (aF ht.2.1 sc bs pre a1 ([_]++post) rE rq ct (by rw[hns];simp only[List.append_assoc];rfl) hbs ⟨⟨rs,hc.2,nj⟩,λx hx=>by obtain⟨r,i,e1,e2,e3⟩:=gY x hx;exact⟨r,i,e1,e2,by omega⟩,⟨A0,tr.2,wS⟩,hnd,tu,hst⟩)
 | @di p q nm nk rg gU a b c a' b' c' ha hb hc' aF bu fe =>
  intro ht sc bs pre ms post rp rq aO hns hbs hx;simp only[PT.bQ,bH] at ht;simp only[NA,bU,cK,Bool.false_eq_true,if_false] at aO;obtain⟨ks,aL,⟨a1,c1,ct,⟨a2,c2,eZ,⟨a3,c3,uy,⟨_,rfl⟩,rfl⟩,rfl⟩,rfl⟩,rfl⟩:=aO;rw[List.append_nil] at hns;have la:=NA.len ct;have lb:=NA.len eZ;refine hx.core GF (λrE hc gY=>?_);obtain⟨rs,hc,nj⟩:=hc;obtain⟨A0,tr,wS⟩:=hx.cq;simp only[PT.gi,bN,iz,cz,reduceCtorEq,if_false,and_true] at hc tr;have hnd:=hx.nd;have tu:=hx.nq;have hst:=hx.st;simp only[PT.tG,tq,reduceCtorEq,if_false,List.nil_append,List.append_nil,List.nodup_append,List.mem_append] at hnd tu;simp only[PT.qF,jz,reduceCtorEq,if_false,List.nil_append,List.append_nil,List.mem_append,ha.pc,hb.pc] at hst;simp only[PT.cnt,ax,Nat.add_zero] at gY
  exact .di
   (aF ht.2.1 sc bs pre a1 (a2++(a3++([_]++post))) rE rq ct (by rw[hns];simp only[List.append_assoc];rfl) hbs ⟨⟨rs,hc.2.1,nj⟩,λx hx=>by obtain⟨r,i,e1,e2,e3⟩:=gY x hx;exact⟨r,i,e1,e2,by omega⟩,⟨A0,tr.2.1,wS⟩,hnd.1,λx hx=>tu x (Or.inl hx),λk x y hm=>hst k x y (Or.inl hm)⟩)
   (bu ht.2.2.1 _ (bs+a.cnt) (pre++a1) a2 (a3++([_]++post)) rE rq eZ (by rw[hns];simp only[List.append_assoc];rfl) (by rw[List.length_append,hbs,la]) ⟨⟨rs,hc.2.2.1,nj⟩,λx hx=>by obtain⟨r,i,e1,e2,e3⟩:=gY x hx;exact⟨r,i,e1,e2,by omega⟩,⟨A0,tr.2.2.1,wS⟩,hnd.2.1.1,λx hx=>tu x (Or.inr (Or.inl hx)),λk x y hm=>hst k x y (Or.inr (Or.inl hm))⟩)
   (fe ht.2.2.2.1 _ (bs+a.cnt+b.cnt) (pre++a1++a2) a3 ([_]++post) rE rq uy (by rw[hns];simp only[List.append_assoc];rfl) (by rw[List.length_append,List.length_append,hbs,la,lb]) ⟨⟨rs,hc.2.2.2,nj⟩,λx hx=>by obtain⟨r,i,e1,e2,e3⟩:=gY x hx;exact⟨r,i,e1,e2,by omega⟩,⟨A0,tr.2.2.2,wS⟩,hnd.2.1.2.1,λx hx=>tu x (Or.inr (Or.inr hx)),λk x y hm=>hst k x y (Or.inr (Or.inr hm))⟩)
 | @two p q k nm nk rg gU a b a' b' hkk ha hb aF bu =>
  intro ht sc bs pre ms post rp rq aO hns hbs hx
  have hkb:bU k=[false,false]:=by rcases hkk with rfl | rfl | rfl <;> rfl
  have hkn:k≠.new:=by rcases hkk with rfl | rfl | rfl <;> decide
  simp only[PT.bQ,bH] at ht;simp only[NA,hkb,cK,Bool.false_eq_true,if_false] at aO;obtain⟨ks,aL,⟨a1,c1,ct,⟨a2,c2,eZ,⟨_,rfl⟩,rfl⟩,rfl⟩,rfl⟩:=aO;rw[List.append_nil] at hns;have la:=NA.len ct;refine hx.core GF (λrE hc gY=>?_);obtain⟨rs,hc,nj⟩:=hc;obtain⟨A0,tr,wS⟩:=hx.cq;simp only[PT.gi,bN,iz,cz,if_neg hkn,and_true] at hc tr;have hnd:=hx.nd;have tu:=hx.nq;have hst:=hx.st;simp only[PT.tG,tq,if_neg hkn,List.nil_append,List.append_nil,List.nodup_append,List.mem_append] at hnd tu;simp only[PT.qF,jz,if_neg hkn,List.nil_append,List.append_nil,List.mem_append,ha.pc] at hst;simp only[PT.cnt,ax,Nat.add_zero] at gY
  exact .two hkk
   (aF ht.2.1 sc bs pre a1 (a2++([_]++post)) rE rq ct (by rw[hns];simp only[List.append_assoc];rfl) hbs ⟨⟨rs,hc.2.1,nj⟩,λx hx=>by obtain⟨r,i,e1,e2,e3⟩:=gY x hx;exact⟨r,i,e1,e2,by omega⟩,⟨A0,tr.2.1,wS⟩,hnd.1,λx hx=>tu x (Or.inl hx),λk x y hm=>hst k x y (Or.inl hm)⟩)
   (bu ht.2.2.1 _ (bs+a.cnt) (pre++a1) a2 ([_]++post) rE rq eZ (by rw[hns];simp only[List.append_assoc];rfl) (by rw[List.length_append,hbs,la]) ⟨⟨rs,hc.2.2,nj⟩,λx hx=>by obtain⟨r,i,e1,e2,e3⟩:=gY x hx;exact⟨r,i,e1,e2,by omega⟩,⟨A0,tr.2.2,wS⟩,hnd.2.1,λx hx=>tu x (Or.inr hx),λk x y hm=>hst k x y (Or.inr hm)⟩)
 | @loop p q nm rg gU a b c a' b' c' ha hb hc' aF bu fe =>
  intro ht sc bs pre ms post rp rq aO hns hbs hx;simp only[PT.bQ,bH] at ht;simp only[NA,bU,cK,Bool.false_eq_true,if_false,if_true] at aO;obtain⟨ks,aL,⟨a1,c1,ct,⟨a2,c2,eZ,⟨a3,c3,uy,⟨_,rfl⟩,rfl⟩,rfl⟩,rfl⟩,rfl⟩:=aO;rw[List.append_nil] at hns;have la:=NA.len ct;have lb:=NA.len eZ;refine hx.core GF (λrE hc gY=>?_);obtain⟨rs,hc,nj⟩:=hc;obtain⟨A0,tr,wS⟩:=hx.cq;simp only[PT.gi,bN,iz,cz,reduceCtorEq,if_false,and_true] at hc tr;have hnd:=hx.nd;have tu:=hx.nq;have hst:=hx.st;simp only[PT.tG,tq,reduceCtorEq,if_false,List.nil_append,List.append_nil,List.nodup_append,List.mem_append] at hnd tu;simp only[PT.qF,jz,reduceCtorEq,if_false,List.nil_append,List.append_nil,List.mem_append,ha.pc,hb.pc] at hst;simp only[PT.cnt,ax,Nat.add_zero] at gY
  exact .loop
   (aF ht.2.1 sc bs pre a1 (a2++(a3++([_]++post))) rE rq ct (by rw[hns];simp only[List.append_assoc];rfl) hbs ⟨⟨rs,hc.2.1,nj⟩,λx hx=>by obtain⟨r,i,e1,e2,e3⟩:=gY x hx;exact⟨r,i,e1,e2,by omega⟩,⟨A0,tr.2.1,wS⟩,hnd.1,λx hx=>tu x (Or.inl hx),λk x y hm=>hst k x y (Or.inl hm)⟩)
   (bu ht.2.2.1 _ (bs+a.cnt) (pre++a1) a2 (a3++([_]++post)) rE rq eZ (by rw[hns];simp only[List.append_assoc];rfl) (by rw[List.length_append,hbs,la]) ⟨⟨rs,hc.2.2.1,nj⟩,λx hx=>by obtain⟨r,i,e1,e2,e3⟩:=gY x hx;exact⟨r,i,e1,e2,by omega⟩,⟨A0,tr.2.2.1,wS⟩,hnd.2.1.1,λx hx=>tu x (Or.inr (Or.inl hx)),λk x y hm=>hst k x y (Or.inr (Or.inl hm))⟩)
   (fe ht.2.2.2.1 _ (bs+a.cnt+b.cnt) (pre++a1++a2) a3 ([_]++post) rE rq uy (by rw[hns];simp only[List.append_assoc];rfl) (by rw[List.length_append,List.length_append,hbs,la,lb]) ⟨⟨rs,hc.2.2.2,nj⟩,λx hx=>by obtain⟨r,i,e1,e2,e3⟩:=gY x hx;exact⟨r,i,e1,e2,by omega⟩,⟨A0,tr.2.2.2,wS⟩,hnd.2.1.2.1,λx hx=>tu x (Or.inr (Or.inr hx)),λk x y hm=>hst k x y (Or.inr (Or.inr hm))⟩)
 | @new q nm rg e a' ha aF =>
  intro ht sc bs pre ms post rp rq aO hns hbs hx;obtain⟨A0,tr,wS⟩:=hx.cq;have hnd:=hx.nd;have tu:=hx.nq;have hst:=hx.st;simp only[bN,cz,if_true,and_true] at tr;simp only[PT.tG,tq,if_true,List.append_nil,List.singleton_append,List.nodup_cons,List.mem_cons] at hnd tu;simp only[PT.qF,jz,if_true,List.append_nil,List.singleton_append,List.mem_cons,Gz,Nat.add_zero,ha.pc] at hst;have q0:=tu _ (Or.inl rfl);refine .SN q0.1 q0.2 (λx hx' hf=>?_) (aF ht sc bs pre ms post rp (rq++[ak rg]) aO hns hbs ⟨hx.cp,hx.rp,⟨_,tr.2,λx hx=>?_⟩,hnd.2,λx hx=>?_,λk x y hm=>hst k x y (Or.inr hm)⟩)
  ·rcases hx' with hx' | hx'
   ·obtain⟨r,i,e1,e2,e3⟩:=hx.rp x hx'
    obtain⟨h,h1,h2,h3⟩:=hst _ bs e.cnt (Or.inl rfl) r (List.getElem?_eq_some_iff.1 e2).1 (by rw[<- e1];exact hf);rw[e2] at h1;simp only[Option.some.injEq] at h1;omega
   ·obtain⟨r,e1,e2,e3⟩:=GF x hx'
    obtain⟨h,h1,_⟩:=hst _ bs e.cnt (Or.inl rfl) r e2 (by rw[<- e1];exact hf);exact e3 h h1
  ·rcases List.mem_cons.1 hx with hx | hx
   ·exact Or.inl (by simp[hx])
   ·rcases wS x hx with h | h
    ·exact Or.inl (by simp[h])
    ·exact Or.inr h
  ·have:=tu x (Or.inr hx)
   refine⟨λhm=>?_,this.2⟩
   rcases List.mem_append.1 hm with hm | hm
   ·exact this.1 hm
   ·simp only[List.mem_singleton] at hm
    exact hnd.1 (hm ▸ hx)
theorem PY {e q:PT} {U V:Ty} {ns:List NR} {n0:NR} {NQ:List Int} (ux:WT [] e U) (jQ:e.bQ) (hnn:dC e) (hN:X7 e ns n0) (hL:CV (fM e ns n0) (fN e ns n0) ns (oG e ns n0)) (hpl:ni R0 e q) (hwr:jE [] q V) (hnd:q.tG.Nodup) (Gh:bN NQ q) (hno:∀ x∈q.tG,x ∉ NQ) :
  ∃ f,Cm f (noN (fN e ns n0)) NQ [] [] (e.lay (fM e ns n0) (fN e ns n0) 0) q/\WT [] (e.lay (fM e ns n0) (fN e ns n0) 0) U:=by
 obtain⟨plo,phi,hpos⟩:=hN.pos;obtain⟨ρ,hpl⟩:=Xf hpl ns plo phi hpos;obtain⟨f,f1,f2⟩:=star hN hpl hwr hnd Gh hno;refine⟨f,?_,O4 ux hnn 0⟩;refine aaE (ns:=ns) (λx hx=>?_) (λi n hn h4=>⟨((hL.pr i n hn).1 h4).1,f1 i n hn h4⟩) hpl jQ [] 0 [] ns [] [] [] hN.na (by simp) rfl ⟨⟨_,Dh hnn hN hL,λx hx=>Or.inr hx⟩,λx hx=>by simp at hx,⟨_,Gh,λx hx=>Or.inr hx⟩,hnd,λx hx=>⟨by simp,hno x hx⟩,f2⟩;obtain⟨r,e1,e2⟩:=(Kg _ _).1 hx;refine⟨r,e1,(List.getElem?_eq_some_iff.1 e2).1,λi hi=>?_⟩;rw[e2] at hi;simp only[Option.some.injEq] at hi;omega
open Go.RowKit
theorem zX:∀ (O acc:List NR),(dr O acc).2.1=0->(acc.map (·.region)).Nodup->dr O acc=(acc++O.filter f12,0,0)/\((acc++O.filter f12).map (·.region)).Nodup
 | [],acc,_,h=>by simp only[dr,List.filter_nil,List.append_nil];exact⟨trivial,h⟩
 | n::r,acc,h0,h=>by
  simp only[dr] at h0 ⊢
  by_cases h12:n.form=12
  ·have hf:f12 n=true:=by simp[f12,h12]
   rw[if_pos h12] at h0 ⊢
   by_cases hs:(lM acc n.region).isSome=true
   ·rw[if_pos hs] at h0;simp at h0
   ·rw[if_neg hs] at h0 ⊢
    have hn:n.region ∉ acc.map (·.region):=λhm=>by
     apply hs
     obtain⟨m,hm,e⟩:=List.mem_map.1 hm;unfold lM;rw[List.find?_isSome];exact⟨m,hm,by simp[e]⟩
    have:=zX r (acc++[n]) h0 (by
     rw[List.map_append,List.nodup_append];refine⟨h,by simp,λa ha b hb e=>?_⟩;simp only[List.map_cons,List.map_nil,List.mem_singleton] at hb
     exact hn (by rw[<- hb,<- e];exact ha))
    rw[List.append_assoc] at this;rw[List.filter_cons,hf,if_pos rfl];exact this
  ·have hf:f12 n=false:=by simp[f12,h12]
   rw[if_neg h12] at h0 ⊢;rw[List.filter_cons,hf];simp only[Bool.false_eq_true,if_false];exact zX r acc h0 h
theorem BV (L:List NR):∀ O:List NR,(kz L O).1=0->∀ n∈O,n.form=4->∀ o,lM L n.region=some o->o.at_<=n.at_/\n.at_<o.aL
 | [],_,n,hn=>by simp at hn
 | m::r,h,n,hn=>by
  simp only[kz] at h;intro h4 o ho
  rcases List.mem_cons.1 hn with hn | hn
  ·subst hn
   rw[if_pos h4,ho] at h;simp only at h
   split at h
   ·simp at h
   ·omega
  ·refine BV L r ?_ n hn h4 o ho
   split at h
   ·split at h
    ·split at h
     ·simp at h
     ·exact h
    ·exact h
   ·exact h
mutual
theorem uJ:∀ (t:PT) (rs:List Int) (scope:Sc) (base:Nat) (ms:List NR) (lo hi:Nat),NA scope t base ms->bG t ms lo hi->(∀ n∈ms,n.form=4->n.region∈rs\/∃ o∈ms,o.form=12/\o.region=n.region/\o.at_<=n.at_/\n.at_<o.aL)->bN rs t
 | .num p s,rs,scope,base,ms,lo,hi,_,_,_=>by simp[bN]
 | .name p s,rs,scope,base,ms,lo,hi,_,_,_=>by simp[bN]
 | .node p k nm rg kids,rs,scope,base,ms,lo,hi,h,hp,hq=>by
  simp only[NA] at h;obtain⟨ks,aL,h1,rfl⟩:=h;simp only[bG] at hp;obtain⟨ks',n',e1,fk,oU,hp3,YL,XN⟩:=hp;obtain⟨rfl,e2⟩:=List.append_inj' e1 rfl;simp only[List.cons.injEq,and_true] at e2;subst e2;simp only[bN];refine⟨λhk=>?_,si kids _ scope nm (bU k) base ks _ _ h1 hp3 (λn hn h4=>?_)⟩
  ·subst hk
   rcases hq _ (List.mem_append_right _ (List.mem_singleton.2 rfl)) rfl with h | ⟨o,ho,h12,hr,ha,hb⟩
   ·exact h
   ·exfalso
    rcases List.mem_append.1 ho with ho | ho
    ·have:=ba.zV hp3 o ho
     simp only at ha;omega
    ·simp only[List.mem_singleton] at ho
     subst ho;exact absurd (show aZ Kw.pair=12 from h12) (by decide)
  ·rcases hq n (List.mem_append_left _ hn) h4 with h | ⟨o,ho,h12,hr,ha,hb⟩
   ·left
    split
    ·exact List.mem_cons_of_mem _ h
    ·exact h
   ·rcases List.mem_append.1 ho with ho | ho
    ·exact Or.inr ⟨o,ho,h12,hr,ha,hb⟩
    ·simp only[List.mem_singleton] at ho
     subst ho
     have hk:k=.new:=by
      simp only at h12
      revert h12
      cases k <;> decide
     left
     rw[if_pos hk,<- hr];simp
theorem si:∀ (ts:List PT) (rs:List Int) (scope:Sc) (nm:List UInt8) (bs:List Bool) (base:Nat) (ms:List NR) (lo hi:Nat),cK scope nm ts bs base ms->ba ts ms lo hi->(∀ n∈ms,n.form=4->n.region∈rs\/∃ o∈ms,o.form=12/\o.region=n.region/\o.at_<=n.at_/\n.at_<o.aL)->cz rs ts
 | [],rs,scope,nm,bs,base,ms,lo,hi,_,_,_=>by simp[cz]
 | t::r,rs,scope,nm,bs,base,ms,lo,hi,h,hp,hq=>by
  match bs,h with
  | [],h=>simp only[cK] at h
  | b::bs,h =>
   simp only[cK] at h;obtain⟨a,c,h1,h2,rfl⟩:=h;simp only[ba] at hp;obtain⟨a',c',mid,e,p1,p2⟩:=hp
   have hl:a.length=a'.length:=by rw[NA.len h1,bG.len p1]
   obtain⟨rfl,rfl⟩:=List.append_inj e hl;simp only[cz];refine⟨uJ t rs _ base a lo mid h1 p1 (λn hn h4=>?_),si r rs scope nm bs _ c mid hi h2 p2 (λn hn h4=>?_)⟩
   ·rcases hq n (List.mem_append_left _ hn) h4 with h | ⟨o,ho,h12,hr,ha,hb⟩
    ·exact Or.inl h
    ·rcases List.mem_append.1 ho with ho | ho
     ·exact Or.inr ⟨o,ho,h12,hr,ha,hb⟩
     ·have:=bG.zV p1 n hn
      have:=ba.zV p2 o ho;omega
   ·rcases hq n (List.mem_append_right _ hn) h4 with h | ⟨o,ho,h12,hr,ha,hb⟩
    ·exact Or.inl h
    ·rcases List.mem_append.1 ho with ho | ho
     ·have:=bG.zV p1 o ho
      have:=ba.zV p2 n hn;omega
     ·exact Or.inr ⟨o,ho,h12,hr,ha,hb⟩
end
theorem PZ {q:PT} {ns:List NR} {lo hi:Nat} (aO:NA [] q 0 ns) (hpo:bG q ns lo hi) (hv:(jm ns (opn q 0)).1=0):q.tG.Nodup/\∃ NQ:List Int,bN NQ q/\∀ x∈q.tG,x ∉ NQ:=by
 unfold jm at hv
 by_cases h1:(dr (bw ns (opn q 0)) []).2.1=0
 ·rw[if_neg (λh=>h h1)] at hv
  obtain⟨e1,e2⟩:=zX _ [] h1 (by simp);rw[List.nil_append] at e1 e2;have mA:=Kf ns q [] 0 ns aO (λj _=>by rw[Nat.zero_add]);rw[mA] at e2;rw[e1] at hv
  by_cases h2:(kz ((bw ns (opn q 0)).filter f12) (bw ns (opn q 0))).1=0
  ·have hall:=FG aO
   refine⟨e2,(ns.map (·.region)).filter (λr=>decide (r ∉ q.tG)),uJ q _ [] 0 ns lo hi aO hpo (λn hn h4=>?_),λx hx hm=>?_⟩
   ·by_cases hq:n.region∈q.tG
    ·right
     rw[<- mA] at hq;obtain⟨o,ho,hr⟩:=List.mem_map.1 hq
     cases hf:lM ((bw ns (opn q 0)).filter f12) n.region with
     | none =>
      unfold lM at hf;rw[List.find?_eq_none] at hf;exact absurd (by simp[hr]) (hf o ho)
     | some o' =>
      have hm:o'∈(bw ns (opn q 0)).filter f12:=List.mem_of_find?_eq_some hf
      have E6:o'.region=n.region:=by simpa using List.find?_some hf
      obtain⟨m1,m2⟩:=List.mem_filter.1 hm;have hb:=BV _ _ h2 n ((hall n).2 hn) h4 o' hf;exact⟨o',(hall o').1 m1,by simpa [f12] using m2,E6,hb⟩
    ·left
     exact List.mem_filter.2 ⟨List.mem_map.2 ⟨n,hn,rfl⟩,by simpa using hq⟩
   ·have:=(List.mem_filter.1 hm).2
    simp only[decide_eq_true_eq] at this;exact this hx
  ·rw[if_pos h2] at hv
   exact absurd hv h2
 ·rw[if_pos h1] at hv
  exact absurd hv h1
theorem aaF {e:PT} {U:Ty} {ns:List NR} (ux:WT [] e U) (aO:NA [] e 0 ns):ij [] ns:=by
 have hb:∀ (i:Nat) n,ns[i]?=some n->jw (([]:List Ty).length+i) n:=λi n hn=>by
  rw[List.length_nil,Nat.zero_add];exact C6 aO i n hn
 have acg:∀ i n,ns[i]?=some n->ai (aU [] ns) (i:Nat)=cH (aU [] ns) (fo n (((ns[i]?).map (·.region)).getD 0)):=λi n hn=>by
  have:=uB ns [] hb i n hn;rw[List.length_nil,Nat.zero_add] at this;rw[this,hn];rfl
 obtain⟨_,LZ⟩:=zK (ρ:=λi=>((ns[i]?).map (·.region)).getD 0) acg ux [] 0 [] ns [] aO (by simp) rfl (λs U h=>by simp[look] at h);rw[Nat.zero_add,<- aO.len] at LZ;exact CY _ _ hb (λi n hn hf=>(LZ i n (Nat.zero_le _) (List.getElem?_eq_some_iff.1 hn).1 hn).2 hf)
theorem Md (s:ByteArray) (hs:s.size<=9000) (e:PT) (U:Ty) (hp:PE true (tokens s.data.toList) e []) (hc:dF e=(0,0)) (ux:WT [] e U) (w:World) :
  Calls Tryz.prog 12 #[.string s] w λv w'=>∃ k a:Nat,v=.returned (.tuple #[.int .i64 k,.int .i64 a])/\(k=0\/k=7\/k=8\/k=9\/k=10)/\(k=0->(∃ T',jE [] e T')/\e.tG.Nodup/\∃ NQ:List Int,bN NQ e/\∀ x∈e.tG,x ∉ NQ)/\Below w.heap.size w w':=by
 have h3:=(hp.rK (nE _)).1;have hrg:=uz e (hp.bQ (fj _)).1 h3;have nF:=jU hp
 have MA:=λw=>pV s w hs e hp
 rw[hc] at MA
 have pz:∀ (w':World) (x1:Option Addr) (n1 c1:Nat) (x2:Option Addr) (n2 c2:Nat) (ns:List NR),bB w' (.slice x1 n1 c1) (.slice x2 n2 c2) ns (opn e 0)->NA [] e 0 ns/\bG e ns (posOf s.size (tokens s.data.toList)) s.size->Calls Tryz.prog 27 #[aQ (.slice x1 n1 c1) (.slice x2 n2 c2)] w' λv w''=>∃ k a:Nat,v=.returned (.tuple #[.int .i64 k,.int .i64 a])/\(k=0\/k=7\/k=8\/k=9\/k=10)/\(k=0->(∃ T',jE [] e T')/\e.tG.Nodup/\∃ NQ:List Int,bN NQ e/\∀ x∈e.tG,x ∉ NQ)/\Below w'.heap.size w' w'':=λw' x1 n1 c1 x2 n2 c2 ns Z0 aO=>by
  refine Calls.mono (pU w' _ _ ns (opn e 0) Z0 (xT aO.1) (by have:=aO.1.len;omega) (aO.1.small (λ_ h=>by simp at h) (by omega)) (aO.1.rgn h3) (aaF ux aO.1)) ?_;rintro v w'' ⟨hv,hb⟩;have mL:=Fy ns (opn e 0);have hbk:=PZ aO.1 aO.2;refine⟨_,_,hv,?_,λh=>?_,hb⟩
  ·rcases mL with h | h
   ·exact Or.inl h.1
   ·exact Or.inr h
  ·rcases mL with h' | h' | h' | h' | h'
   ·obtain⟨_,T',_,_,_,hw⟩:=ux.wtr [] [] [] ns aO.1 (λs U h=>by simp[look] at h) hrg h3 h'.2
    exact⟨⟨T',hw⟩,hbk h⟩
   all_goals (rw[h'] at h;cases h)
 unfold aQ at MA pz;have HR:Hid _:=MA;have HN:Hid _:=pz;clear MA pz hc ux nF hrg h3 hp hs
 go_enter Tryz.func12,Tryz.ntmps12
 go_wp2_with fail
 refine (HR.out _).mono ?_;rintro _ w1 ⟨x1,n1,c1,x2,n2,c2,ns,rfl,hb,hT,aO⟩;have hb2:Below w1.heap.size w1 (w1.alloc (.cells #[.slice x1 n1 c1,.slice x2 n2 c2] 62)):=(Below.refl _ w1).alloc (Nat.le_refl _) _;have MB:Hid _:=HN.out _ x1 n1 c1 x2 n2 c2 ns (hT.below hb2) aO;have eC:Hid _:=hb.trans (hb2.mono hb.size);clear hb hT aO hb2 HR HN
 go_wp2_with fail
 refine Calls.mono MB.out ?_;rintro _ w3 ⟨k,a,rfl,hk,ko,hb3⟩;have jb:Hid _:=eC.out.trans (hb3.mono eC.out.size);have HK:Hid _:=hk;have KJ:Hid _:=ko;clear hb3 MB eC hk ko
 go_wp2
 refine bodyPost_ret (v:=.tuple #[.int .i64 k,.int .i64 a]) (by simp[results,Tryz.results12,go_sem]) rfl ⟨k,a,rfl,HK.out,KJ.out,jb.out⟩
inductive Lf:List Int->PT->PT->Prop
 | num {p:Nat} {s:List UInt8}:Lf [] (.num p s) (.num p s)
 | name {p:Nat} {s:List UInt8}:Lf [] (.name p s) (.name p s)
 | one {l:List Int} {p:Nat} {k:Kw} {nm rg:List UInt8} {a a':PT} (hk:k=.fst\/k=.snd\/k=.new) (ha:Lf l a a'):Lf l (.node p k nm rg [a]) (.node p k nm rg [a'])
 | two {l1 l2:List Int} {p:Nat} {k:Kw} {nm rg:List UInt8} {a b a' b':PT} (hk:k=.aP\/k=.pair\/k=.add\/k=.sub\/k=.less) (ha:Lf l1 a a') (hb:Lf l2 b b'):Lf (l1++l2) (.node p k nm rg [a,b]) (.node p k nm rg [a',b'])
 | three {l1 l2 l3:List Int} {p:Nat} {k:Kw} {nm rg:List UInt8} {a b c a' b' c':PT} (hk:k=.di\/k=.loop) (ha:Lf l1 a a') (hb:Lf l2 b b') (hc:Lf l3 c c'):Lf (l1++(l2++l3)) (.node p k nm rg [a,b,c]) (.node p k nm rg [a',b',c'])
 | lift {l:List Int} {p:Nat} {nm rg:List UInt8} {a a':PT} (ha:Lf l a a'):Lf (ak rg::l) (.node p .new nm rg [a]) a'
theorem Lf.ok {l:List Int} {t t':PT} {b:Bool} (h:Lf l t t') (hk:t.ok b):t'.ok b:=by
 induction h with
 | num=>exact hk
 | name=>exact hk
 | one _ _ aF =>
  simp only[PT.ok,pW,and_true] at hk ⊢;exact⟨hk.1,hk.2.1,hk.2.2.1,hk.2.2.2.1,aF hk.2.2.2.2⟩
 | two _ _ _ aF bu =>
  simp only[PT.ok,pW,and_true] at hk ⊢;exact⟨hk.1,hk.2.1,hk.2.2.1,hk.2.2.2.1,aF hk.2.2.2.2.1,bu hk.2.2.2.2.2⟩
 | three _ _ _ _ aF bu fe =>
  simp only[PT.ok,pW,and_true] at hk ⊢;exact⟨hk.1,hk.2.1,hk.2.2.1,hk.2.2.2.1,aF hk.2.2.2.2.1,bu hk.2.2.2.2.2.1,fe hk.2.2.2.2.2.2⟩
 | lift _ aF =>
  simp only[PT.ok,pW,and_true] at hk;exact aF hk.2.2.2.2
mutual
theorem rF:∀ t:PT,t.np.cnt=t.cnt
 | .num _ _=>rfl
 | .name _ _=>rfl
 | .node _ _ _ _ kids=>by simp only[PT.np,PT.cnt,FR kids]
theorem FR:∀ l:List PT,ax (dN l)=ax l
 | []=>rfl
 | t::r=>by simp only[dN,ax,rF t,FR r]
end
def strip (n:NR):NR:={ n with at_:=0,aL:=0 }
def OkP (x y:NR × NR):Prop:=(x.1.at_<y.1.at_↔x.2.at_<y.2.at_)/\(x.1.at_<=y.1.at_/\y.1.aL<=x.1.aL↔x.2.at_<=y.2.at_/\y.2.aL<=x.2.aL)
def ach (L:List (NR × NR)):Prop:=(∀ x∈L,strip x.1=strip x.2)/\∀ x∈L,∀ y∈L,OkP x y
def Xh (L:List (NR × NR)) (r s:Nat):Prop:=∃ x∈L,r=x.1.at_/\s=x.2.at_
theorem Xh.lt {L:List (NR × NR)} (h:ach L) {r s r' s':Nat} (hr:Xh L r r') (hs:Xh L s s'):r<s↔r'<s':=by
 obtain⟨x,hx,rfl,rfl⟩:=hr;obtain⟨y,hy,rfl,rfl⟩:=hs;exact (h.2 x hx y hy).1
def Pc (c:UInt8) (p:List UInt8):Prop:=p=[c]\/(c=32/\(p=[10]\/p=[32,10,32]))\/(c=40/\p=[40,32])\/(c=41/\p=[10,41])
inductive Spr:List UInt8->List UInt8->Prop
 | nil:Spr [] []
 | cons {c:UInt8} {p r r':List UInt8} (hp:Pc c p) (h:Spr r r'):Spr (c::r) (p++r')
def wgt (c:UInt8):Nat:=if c=32 then 2 else if c=40 then 1 else if c=41 then 1 else 0
def Xi:List UInt8->Nat
 | []=>0
 | c::r=>wgt c+Xi r
theorem Spr.len {l l':List UInt8} (h:Spr l l'):l'.length<=l.length+Xi l:=by
 induction h with
 | nil=>simp
 | @cons c p r r' hp h ih =>
  have hpl:p.length<=1+wgt c:=by
   rcases hp with e | ⟨e,f | f⟩ | ⟨e,f⟩ | ⟨e,f⟩
   ·subst e;simp
   ·subst e;subst f;simp
   ·subst e;subst f;simp[wgt]
   ·subst e;subst f;simp[wgt]
   ·subst e;subst f;simp[wgt]
  simp only[List.length_append,List.length_cons,Xi];omega
mutual
theorem nQ (fuel:Nat):∀ e:PT,mW fuel e.np=mW fuel e
 | .num _ _=>by funext sc base m;simp only[PT.np,mW]
 | .name _ _=>by funext sc base m;simp only[PT.np,mW]
 | .node _ k nm rg kids=>by
  funext sc base m
  simp only[PT.np,mW,SP fuel _ kids,SQ fuel nm kids,Xj fuel kids,P0 fuel nm kids,SR fuel k _ kids]
theorem SP (fuel:Nat) (rg:Int):∀ l:List PT,rL fuel rg (dN l)=rL fuel rg l
 | []=>rfl
 | [a]=>by funext sc base m;simp only[dN,rL,nQ fuel a]
 | _::_::_=>by funext sc base m;simp only[dN,rL]
theorem SQ (fuel:Nat) (nm:List UInt8):∀ l:List PT,ud fuel nm (dN l)=ud fuel nm l
 | []=>rfl
 | [_]=>by funext sc base m;simp only[dN,ud]
 | [a,b]=>by funext sc base m;simp only[dN,ud,nQ fuel a,nQ fuel b,rF]
 | _::_::_::_=>by funext sc base m;simp only[dN,ud]
theorem Xj (fuel:Nat):∀ l:List PT,Hs fuel (dN l)=Hs fuel l
 | []=>rfl
 | [_]=>by funext sc base m;simp only[dN,Hs]
 | [_,_]=>by funext sc base m;simp only[dN,Hs]
 | [a,b,c]=>by funext sc base m;simp only[dN,Hs,nQ fuel a,nQ fuel b,nQ fuel c,rF]
 | _::_::_::_::_=>by funext sc base m;simp only[dN,Hs]
theorem P0 (fuel:Nat) (nm:List UInt8):∀ l:List PT,lT fuel nm (dN l)=lT fuel nm l
 | []=>rfl
 | [_]=>by funext sc base m;simp only[dN,lT]
 | [_,_]=>by funext sc base m;simp only[dN,lT]
 | [a,b,c]=>by funext sc base m;simp only[dN,lT,nQ fuel a,nQ fuel b,nQ fuel c,rF]
 | _::_::_::_::_=>by funext sc base m;simp only[dN,lT]
theorem SR (fuel:Nat) (k:Kw) (rg:Int):∀ l:List PT,gu fuel k rg (dN l)=gu fuel k rg l
 | []=>rfl
 | [a]=>by funext sc base m;simp only[dN,gu,nQ fuel a]
 | [a,b]=>by funext sc base m;simp only[dN,gu,nQ fuel a,nQ fuel b,rF]
 | _::_::_::_=>by funext sc base m;simp only[dN,gu]
end
mutual
theorem Kj:∀ e:PT,e.iE->e.np.iE
 | .num _ _,h=>h
 | .name _ _,h=>h
 | .node _ k nm rg kids,h=>by
  simp only[PT.np,PT.iE] at h ⊢;exact⟨h.1,FT kids h.2⟩
theorem FT:∀ l:List PT,cJ l->cJ (dN l)
 | [],h=>h
 | t::r,h=>by
  simp only[dN,cJ] at h ⊢;exact⟨Kj t h.1,FT r h.2⟩
end
theorem P1 {f:Nat} {e:PT} {U T':Ty} (ux:WT [] e U) (hwr:jE [] e T') (hrg:e.iE) (he:(ev f e.era [] ⟨0,0,0⟩).2.e=0):(mW f e [] 0 ((m0 e.cnt).opn (-1))).2.fault=0:=by
 have hlen:((m0 e.cnt).opn (-1)).named.length=e.cnt:=by simp[m0,MM.opn]
 have her:ER ((m0 e.cnt).opn (-1)).named ((m0 e.cnt).opn (-1)).cells [] [] [] 0:=λs T h=>by simp[look] at h
 have hs0:Sw f ⟨0,0,0⟩ ((m0 e.cnt).opn (-1)):=⟨rfl,rfl,rfl,Nat.zero_le _,rfl,by simp[m0,MM.opn]⟩;have hlv:=(J3 f hwr [] 0 ((m0 e.cnt).opn (-1)) (λs U hs=>by simp[look] at hs) (by rw[hlen];omega) rfl (by simp[m0,MM.opn])).ok
 rcases Iy f ux [] 0 ((m0 e.cnt).opn (-1)) [] ⟨0,0,0⟩ hrg her (by rw[hlen];omega) hs0 with ⟨h1,_,_⟩ | hB | hD
 ·exact h1.f
 ·rw[hB.1] at he;cases he
 ·rcases hlv with h12 | ⟨h0,_⟩
  ·rw[hD] at h12;cases h12
  ·rw[hD] at h0;cases h0
theorem dR {e:PT} {p:Nat} {k:Kw} {nm rg:List UInt8} {kids:List PT} (h:e.np=.node p k nm rg kids):∃ p' nK,e=.node p' k nm rg nK/\dN nK=kids:=by
 cases e with
 | num _ _=>simp[PT.np] at h
 | name _ _=>simp[PT.np] at h
 | node p' k' nk gU nK =>
  simp only[PT.np,PT.node.injEq] at h;obtain⟨_,rfl,rfl,rfl,h⟩:=h;exact⟨p',nK,rfl,h⟩
theorem zY {l:List PT} {a:PT} (h:dN l=[a]):∃ x,l=[x]/\x.np=a:=by
 match l,h with
 | [x],h=>simp only[dN,List.cons.injEq,and_true] at h;exact⟨x,rfl,h⟩
 | [],h=>simp[dN] at h
 | _::_::_,h=>simp[dN] at h
theorem vQ {l:List PT} {a b:PT} (h:dN l=[a,b]):∃ x y,l=[x,y]/\x.np=a/\y.np=b:=by
 match l,h with
 | [x,y],h=>simp only[dN,List.cons.injEq,and_true] at h;exact⟨x,y,rfl,h⟩
 | [],h=>simp[dN] at h
 | [_],h=>simp[dN] at h
 | _::_::_::_,h=>simp[dN] at h
theorem Dp {l:List PT} {a b c:PT} (h:dN l=[a,b,c]):∃ x y z,l=[x,y,z]/\x.np=a/\y.np=b/\z.np=c:=by
 match l,h with
 | [x,y,z],h=>simp only[dN,List.cons.injEq,and_true] at h;exact⟨x,y,z,rfl,h⟩
 | [],h=>simp[dN] at h
 | [_],h=>simp[dN] at h
 | [_,_],h=>simp[dN] at h
 | _::_::_::_::_,h=>simp[dN] at h
theorem Xk {a b:PT} (h:ni R0 a b):∀ e q:PT,e.np=a->q.np=b->ni R0 e q:=by
 induction h with
 | num h =>
  intro e q h1 h2
  cases e with
  | num p s =>
   cases q with
   | num p' s' =>
    simp only[PT.np,PT.num.injEq] at h1 h2;exact .num (by rw[h1.2,h2.2];exact h)
   | name _ _=>simp[PT.np] at h2
   | node _ _ _ _ _=>simp[PT.np] at h2
  | name _ _=>simp[PT.np] at h1
  | node _ _ _ _ _=>simp[PT.np] at h1
 | name =>
  intro e q h1 h2
  cases e with
  | name p s =>
   cases q with
   | name p' s' =>
    simp only[PT.np,PT.name.injEq] at h1 h2;obtain⟨_,rfl⟩:=h1;obtain⟨_,rfl⟩:=h2;exact .name
   | num _ _=>simp[PT.np] at h2
   | node _ _ _ _ _=>simp[PT.np] at h2
  | num _ _=>simp[PT.np] at h1
  | node _ _ _ _ _=>simp[PT.np] at h1
 | aP _ _ aF bu =>
  intro e q h1 h2;obtain⟨p1,k1,rfl,e1⟩:=dR h1;obtain⟨p2,k2,rfl,e2⟩:=dR h2;obtain⟨x,y,rfl,x1,y1⟩:=vQ e1;obtain⟨x',y',rfl,x2,y2⟩:=vQ e2;exact .aP (aF _ _ x1 x2) (bu _ _ y1 y2)
 | pair hr _ _ aF bu =>
  intro e q h1 h2;obtain⟨p1,k1,rfl,e1⟩:=dR h1;obtain⟨p2,k2,rfl,e2⟩:=dR h2;obtain⟨x,y,rfl,x1,y1⟩:=vQ e1;obtain⟨x',y',rfl,x2,y2⟩:=vQ e2;exact .pair hr (aF _ _ x1 x2) (bu _ _ y1 y2)
 | fst _ aF =>
  intro e q h1 h2;obtain⟨p1,k1,rfl,e1⟩:=dR h1;obtain⟨p2,k2,rfl,e2⟩:=dR h2;obtain⟨x,rfl,x1⟩:=zY e1;obtain⟨x',rfl,x2⟩:=zY e2;exact .fst (aF _ _ x1 x2)
 | snd _ aF =>
  intro e q h1 h2;obtain⟨p1,k1,rfl,e1⟩:=dR h1;obtain⟨p2,k2,rfl,e2⟩:=dR h2;obtain⟨x,rfl,x1⟩:=zY e1;obtain⟨x',rfl,x2⟩:=zY e2;exact .snd (aF _ _ x1 x2)
 | di _ _ _ aF bu fe =>
  intro e q h1 h2;obtain⟨p1,k1,rfl,e1⟩:=dR h1;obtain⟨p2,k2,rfl,e2⟩:=dR h2;obtain⟨x,y,z,rfl,x1,y1,z1⟩:=Dp e1;obtain⟨x',y',z',rfl,x2,y2,z2⟩:=Dp e2;exact .di (aF _ _ x1 x2) (bu _ _ y1 y2) (fe _ _ z1 z2)
 | two hk _ _ aF bu =>
  intro e q h1 h2;obtain⟨p1,k1,rfl,e1⟩:=dR h1;obtain⟨p2,k2,rfl,e2⟩:=dR h2;obtain⟨x,y,rfl,x1,y1⟩:=vQ e1;obtain⟨x',y',rfl,x2,y2⟩:=vQ e2;exact .two hk (aF _ _ x1 x2) (bu _ _ y1 y2)
 | loop _ _ _ aF bu fe =>
  intro e q h1 h2;obtain⟨p1,k1,rfl,e1⟩:=dR h1;obtain⟨p2,k2,rfl,e2⟩:=dR h2;obtain⟨x,y,z,rfl,x1,y1,z1⟩:=Dp e1;obtain⟨x',y',z',rfl,x2,y2,z2⟩:=Dp e2;exact .loop (aF _ _ x1 x2) (bu _ _ y1 y2) (fe _ _ z1 z2)
 | new _ aF =>
  intro e q h1 h2;obtain⟨p2,k2,rfl,e2⟩:=dR h2;obtain⟨x',rfl,x2⟩:=zY e2;exact .new (aF _ _ h1 x2)
theorem Me (k:Nat):ak (Au k)=(k:Int):=qB k
theorem jB (raw:List Int) (s:fC) {e q:PT} (h:ni R0 e q):ni R0 e (gf raw q s).1:=by
 unfold gf;simp only
 split
 ·exact .new h
 ·exact h
theorem Kk (raw:List Int):∀ {vs:List Nat} {x:KE} {t:Nat},KT vs x t->∀ s,ni R0 (x.pt []) (bt raw x s).1:=by
 intro vs x t h
 induction h with
 | num _=>intro s;exact jB raw s (.num rfl)
 | var _=>intro s;exact jB raw s .name
 | aP _ _ _ _ ha hb =>
  intro s;simp only[bt,KE.pt,cQ,if_true,true_or];exact jB raw _ (.aP (ha _) (hb _))
 | di _ _ _ ha hb hc =>
  intro s;simp only[bt,KE.pt];exact jB raw _ (.di (ha _) (hb _) (hc _))
 | loop _ _ _ _ ha hb hc =>
  intro s;simp only[bt,KE.pt];exact jB raw _ (.loop (ha _) (hb _) (hc _))
 | pair _ _ _ _ ha hb =>
  intro s;simp only[bt,KE.pt];refine jB raw _ (.pair ?_ (ha _) (hb _))
  show 0<=_
  simp only[mq,if_true,Me];omega
 | fst _ _ _ ha =>
  intro s;simp only[bt,KE.pt];exact jB raw _ (.fst (ha _))
 | snd _ _ _ ha =>
  intro s;simp only[bt,KE.pt];exact jB raw _ (.snd (ha _))
 | two hk _ _ ha hb =>
  intro s;simp only[bt,KE.pt];exact jB raw _ (.two hk (ha _) (hb _))
mutual
theorem FU {r:Int}:∀ e:PT,e.np.iZ r->e.iZ r
 | .num _ _,_=>by simp[PT.iZ]
 | .name _ _,_=>by simp[PT.iZ]
 | .node _ k nm rg kids,h=>by
  simp only[PT.np,PT.iZ] at h ⊢;exact⟨h.1,h.2.1,BW kids h.2.2⟩
theorem BW {r:Int}:∀ l:List PT,gQ r (dN l)->gQ r l
 | [],_=>by simp[gQ]
 | t::ts,h=>by
  simp only[dN,gQ] at h ⊢;exact⟨FU t h.1,BW ts h.2⟩
end
theorem P2 {rg:List UInt8} {r:Int} (hr:ak rg=r):∀ {vs:List Nat} {x:KE} {t:Nat},KT vs x t->(x.pt rg).iZ r:=by
 intro vs x t h
 induction h with
 | num _=>simp[KE.pt,PT.iZ]
 | var _=>simp[KE.pt,PT.iZ]
 | aP _ _ _ _ ha hb=>simp[KE.pt,PT.iZ,gQ,ha,hb]
 | di _ _ _ ha hb hc=>simp[KE.pt,PT.iZ,gQ,ha,hb,hc]
 | loop _ _ _ _ ha hb hc=>simp[KE.pt,PT.iZ,gQ,ha,hb,hc]
 | pair _ _ _ _ ha hb=>simp[KE.pt,PT.iZ,gQ,ha,hb,hr]
 | fst _ _ _ ha=>simp[KE.pt,PT.iZ,gQ,ha]
 | snd _ _ _ ha=>simp[KE.pt,PT.iZ,gQ,ha]
 | two hk _ _ ha hb=>rcases hk with rfl | rfl | rfl <;> simp[KE.pt,PT.iZ,gQ,ha,hb]
theorem SS (k:Nat):∀ {vs:List Nat} {x:KE} {t:Nat},KT vs x t->ni R0 (x.pt []) (x.pt (35::decDigits k)):=by
 intro vs x t h
 have hv:0<=ak (35::decDigits k):=by rw[qB];omega
 induction h with
 | num _=>exact .num rfl
 | var _=>exact .name
 | aP _ _ _ _ ha hb=>simp only[KE.pt];exact .aP ha hb
 | di _ _ _ ha hb hc=>simp only[KE.pt];exact .di ha hb hc
 | loop _ _ _ _ ha hb hc=>simp only[KE.pt];exact .loop ha hb hc
 | pair _ _ _ _ ha hb=>simp only[KE.pt];exact .pair (by simpa [R0] using hv) ha hb
 | fst _ _ _ ha=>simp only[KE.pt];exact .fst ha
 | snd _ _ _ ha=>simp only[KE.pt];exact .snd ha
 | two hk _ _ ha hb=>simp only[KE.pt];exact .two hk ha hb
def UG (R:Vl × cu) (c d:Int) (v:Value) (E:Nat):Prop :=
 (R.2.e=12/\E=12/\v=.agg #[.string ⟨#[]⟩,.int .i64 0,.int .i64 0,.int .i64 0,.int .i64 0]) \/
  (R.2.e=0/\E=0/\∃ c' d':Int,v=.agg #[.string (bs R.1.txt),.int .i64 R.2.steps,.int .i64 R.2.cells,.int .i64 c',.int .i64 d']/\c<=c'/\d<=d')
def LsQ (R:Vl × cu) (c d:Int) (Q:ByteArray):Prop:=∃ (v:Value) (E:Nat),
 (∀ w,Calls Tryz.prog 12 #[.string Q] w λr w'=>∃ k a:Nat,r=.returned (.tuple #[.int .i64 k,.int .i64 a])/\(k=0\/k=7\/k=8\/k=9\/k=10)/\(k=0->UG R c d v E)/\Below w.heap.size w w') /\
 (∀ w,Lib.TabIs Tryz.prog w "internal/strconv.uint64pow10" .u64 Lib.pow10Tab->Calls Tryz.prog 13 #[.string Q,.int .i64 (20000:Nat)] w λr w'=>r=.returned (.tuple #[v,.int .i64 E])/\Below w.heap.size w w')
theorem Mf {x:KE} {t:Nat} (h:KT [] x t) (jN:x.bz<=75) (hlen:x.len<=1308) (src:ByteArray) (hsrc:src=bs (x.pt []).tidy) :
  ∃ (P:ByteArray) (v:Value) (E:Nat) (c d:Int),
   (∀ w,Lib.TabIs Tryz.prog w "internal/strconv.uint64pow10" .u64 Lib.pow10Tab->Calls Tryz.prog 16 #[.string src] w λv w'=>v=.returned (.tuple #[.string P,.int .i64 (0:Nat)])/\Below w.heap.size w w') /\
   ((ev 20000 (x.pt []) [] ⟨0,0,0⟩).2.e=12/\E=12/\v=.agg #[.string ⟨#[]⟩,.int .i64 0,.int .i64 0,.int .i64 0,.int .i64 0]\/(ev 20000 (x.pt []) [] ⟨0,0,0⟩).2.e=0/\E=0/\v=.agg #[.string (bs (ev 20000 (x.pt []) [] ⟨0,0,0⟩).1.txt),.int .i64 (ev 20000 (x.pt []) [] ⟨0,0,0⟩).2.steps,.int .i64 (ev 20000 (x.pt []) [] ⟨0,0,0⟩).2.cells,.int .i64 c,.int .i64 d]) /\
   (∀ w,Lib.TabIs Tryz.prog w "internal/strconv.uint64pow10" .u64 Lib.pow10Tab->Calls Tryz.prog 13 #[.string P,.int .i64 (20000:Nat)] w λr w'=>r=.returned (.tuple #[v,.int .i64 E])/\Below w.heap.size w w') /\
   ∀ L':PT,L'.ok true->L'.np=L'->L'.bz<=100->WT [] L' (sS t)->ni R0 (x.pt []) L'->(∀ fuel,ev fuel L'.era=ev fuel (x.pt []))->L'.tidy.length<=9000->LsQ (ev 20000 (x.pt []) [] ⟨0,0,0⟩) c d (bs L'.tidy):=by
 obtain⟨e,hpe,Px,xk,rY⟩:=E5 (ae:=false) (rg:=[]) rfl h (by omega);have P3:=CD (rg:=[]) h
 have hsl:src.data.toList=(x.pt []).tidy:=by rw[hsrc];simp[bs]
 have AK:src.size<=3000:=by rw[hsrc,bE];simp at P3;omega
 rw[<- hsl] at hpe;obtain⟨ns,n0,hN,hL,hPl⟩:=AZ src AK e hpe Px;have jQ:=(hpe.bQ (fj _)).1;obtain⟨⟨_,hnn⟩,_⟩:=PE.plain hpe (fj _);obtain⟨e2,T',SU,aaG,PN,hwr,aci,AU,he2⟩:=SH h jN hlen xk jQ hnn hN hL;have acj:WT [] e (sS t):=iy e (by rw[xk];exact En h (by simp))
 have hU:(sS t).size<=63:=by have:=p9 t;omega
 have hrg2:=uz e2 (SU.bQ (fj _)).1 (SU.rK (nE _)).1;obtain⟨TX,hTX⟩:∃ TX,TX=e.wW (fM e ns n0) (fN e ns n0) 0:=⟨_,rfl⟩;rw[<- hTX] at hPl SU AU
 have hd:(bs TX).data.toList=TX:=by simp[bs]
 obtain⟨v,E,dm,X9,Xl⟩:=nO (bs TX) (by rw[bE];exact AU) e2 _ (by rw[hd];exact SU) aaG PN hU 20000 (by omega);have hf2:=P1 (f:=20000) PN hwr hrg2;rw[aci] at dm hf2;refine⟨bs TX,v,E,(mW 20000 e2 [] 0 ((m0 e2.cnt).opn (-1))).2.most,(mW 20000 e2 [] 0 ((m0 e2.cnt).opn (-1))).2.live,hPl,?_,Xl,λL' o1 o2 o3 o4 o5 o6 o7=>?_⟩
 ·rcases dm with ⟨g,_⟩ | ⟨g1,g2,g3⟩ | ⟨g1,g2,g3⟩
  ·exact absurd g (X9 T' hwr)
  ·exact Or.inl ⟨g1,g2,g3⟩
  ·exact Or.inr ⟨g1,g2,g3⟩
 ·obtain⟨e3,SV,he3⟩:=Cv L' o1
  rw[o2] at he3;have SW:WT [] e3 (sS t):=iy e3 (by rw[he3];exact o4);have UH:dF e3=(0,0):=H7 SW (by rw[<- yP,he3];exact o3)
  have hQ9:(bs L'.tidy).size<=9000:=by rw[bE];exact o7
  have hQd:(bs L'.tidy).data.toList=L'.tidy:=by simp[bs]
  have aaH:=uz e3 (SV.bQ (fj _)).1 (SV.rK (nE _)).1;have ack:ni R0 e e3:=Xk o5 e e3 xk he3
  have aaI:ev 20000 e3.era [] ⟨0,0,0⟩=ev 20000 (x.pt []) [] ⟨0,0,0⟩:=by rw[<- nJ,IL,he3,o6]
  have hVt:=Md (bs L'.tidy) hQ9 e3 _ (by rw[hQd];exact SV) UH SW;obtain⟨v',E',UI,acm,acn⟩:=nO (bs L'.tidy) hQ9 e3 _ (by rw[hQd];exact SV) UH SW hU 20000 (by omega);rw[aaI] at UI;refine⟨v',E',λw=>(hVt w).mono ?_,acn⟩;rintro r w' ⟨k,a,hr,hk,ko,hb⟩;refine⟨k,a,hr,hk,λR4=>?_,hb⟩;obtain⟨⟨T3,Xm⟩,aco,NQ,acp,acq⟩:=ko R4
  rcases UI with ⟨g,_⟩ | ⟨g1,g2,g3⟩ | ⟨g1,g2,g3⟩
  ·exact absurd g (acm T3 Xm)
  ·exact Or.inl ⟨g1,g2,g3⟩
  ·refine Or.inr ⟨g1,g2,_,_,g3,?_⟩
   obtain⟨f,hcm,acr⟩:=PY acj jQ hnn hN hL ack Xm aco acp acq
   have r2:(e.lay (fM e ns n0) (fN e ns n0) 0).iE:=by rw[<- he2];exact Kj e2 hrg2
   have c2:(e.lay (fM e ns n0) (fN e ns n0) 0).cnt=e2.cnt:=by rw[<- he2,rF]
   have m2:mW 20000 (e.lay (fM e ns n0) (fN e ns n0) 0)=mW 20000 e2:=by rw[<- he2,nQ]
   have hf3:=P1 (f:=20000) SW Xm aaH (by rw[aaI];exact g1);have:=hcm.counts 20000 acr r2 aaH (by rw[m2,c2];exact hf2 g1) hf3;rw[m2,c2] at this;exact this
end Go.Proofs.YtpicaknklgccoabGreatDoor
