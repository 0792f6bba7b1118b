import Derived.Test.YtpicaknklgccoabGreatDoorV33
set_option maxHeartbeats 8000000
set_option maxRecDepth 100000
namespace Go.Proofs.YtpicaknklgccoabGreatDoor
theorem cf {T X:List Ty} {p:Int} (h:p<T.length):ai (T++X) p=ai T p:=by
 unfold ai
 split
 ·rw[List.getElem?_append_left (by omega)]
 ·rfl
theorem ru:∀ (ns:List NR) (T:List Ty),∃ X,aU T ns=T++X/\X.length=ns.length
 | [],T=>⟨[],by simp[aU],rfl⟩
 | n::r,T=>by
  obtain⟨X,h1,h2⟩:=ru r (T++[cH T n]);exact⟨cH T n::X,by simp only[aU,h1,List.append_assoc,List.singleton_append],by simp[h2]⟩
def jw (k:Nat) (n:NR):Prop:=n.p0<k/\n.p1<k/\n.p2<k/\n.source<k
theorem Sj {T X:List Ty} {n:NR} (h:jw T.length n):cH (T++X) n=cH T n:=by
 unfold cH;rw[cf h.1,cf h.2.1,cf h.2.2.2]
theorem uB:∀ (ns:List NR) (T:List Ty),(∀ (i:Nat) n,ns[i]?=some n->jw (T.length+i) n)->∀ (i:Nat) n,ns[i]?=some n->ai (aU T ns) ((T.length+i:Nat):Int)=cH (aU T ns) n
 | [],_,_,i,n,h=>by simp at h
 | m::r,T,hb,i,n,h=>by
  simp only[aU]
  cases i with
  | zero =>
   simp only[List.getElem?_cons_zero,Option.some.injEq] at h;subst h;obtain⟨X,h1,_⟩:=ru r (T++[cH T m])
   have CX:jw T.length m:=by simpa using hb 0 m (by simp)
   rw[h1,List.append_assoc,Sj CX];unfold ai;rw[if_pos (by omega),Int.toNat_natCast,Nat.add_zero,List.getElem?_append_right (Nat.le_refl _),Nat.sub_self];rfl
  | succ j =>
   have:=uB r (T++[cH T m]) (λk x hx=>by have:=hb (k+1) x (by simpa using hx);rw[List.length_append,List.length_singleton];rwa [show T.length+1+k=T.length+(k+1) by omega]) j n (by simpa using h);rw[List.length_append,List.length_singleton,show T.length+1+j=T.length+(j+1) by omega] at this;exact this
theorem BJ:∀ (ns:List NR) (T:List Ty),(∀ (i:Nat) n,ns[i]?=some n->jw (T.length+i) n)->(∀ (i:Nat) n,ns[i]?=some n->n.form=7\/n.form=11->(ai (aU T ns) n.p1).bare=(ai (aU T ns) n.p2).bare)->u9 T ns
 | [],_,_,_=>trivial
 | m::r,T,hb,ha=>by
  obtain⟨X,h1,_⟩:=ru r (T++[cH T m])
  have CX:jw T.length m:=by simpa using hb 0 m (by simp)
  simp only[u9];refine⟨λhf=>?_,BJ r _ (λk x hx=>?_) (λk x hx=>?_)⟩
  ·have:=ha 0 m (by simp) hf
   simp only[aU] at this;rw[h1,List.append_assoc,cf CX.2.1,cf CX.2.2.1] at this;rw[cf CX.2.1,cf CX.2.2.1];exact this
  ·have:=hb (k+1) x (by simpa using hx)
   rw[List.length_append,List.length_singleton,show T.length+1+k=T.length+(k+1) by omega];exact this
  ·have:=ha (k+1) x (by simpa using hx)
   simp only[aU] at this;exact this
theorem J5 (c:Nat->Nat):∀ (ns:List NR) (T:List Ty),(∀ (i:Nat) n,ns[i]?=some n->jw (T.length+i) n)->AG c T ns->∀ (i:Nat) n,ns[i]?=some n->n.form=7\/n.form=11->cC c (ai (aU T ns) n.p1)=cC c (ai (aU T ns) n.p2)
 | [],_,_,_,i,n,h=>by simp at h
 | m::r,T,hb,ho,i,n,h=>by
  obtain⟨X,h1,_⟩:=ru r (T++[cH T m])
  have CX:jw T.length m:=by simpa using hb 0 m (by simp)
  simp only[AG] at ho;simp only[aU]
  cases i with
  | zero =>
   simp only[List.getElem?_cons_zero,Option.some.injEq] at h;subst h;intro hf;have:=ho.1 hf;rw[cf CX.2.1,cf CX.2.2.1] at this;rw[h1,List.append_assoc,cf CX.2.1,cf CX.2.2.1];exact this
  | succ j =>
   exact J5 c r _ (λk x hx=>by have:=hb (k+1) x (by simpa using hx);rw[List.length_append,List.length_singleton,show T.length+1+k=T.length+(k+1) by omega];exact this) ho.2 j n (by simpa using h)
theorem CY:∀ (ns:List NR) (T:List Ty),(∀ (i:Nat) n,ns[i]?=some n->jw (T.length+i) n)->(∀ (i:Nat) n,ns[i]?=some n->n.form=4->(Ty.p 0 (ai (aU T ns) n.p0) (ai (aU T ns) n.p1)).size<=63)->ij T ns
 | [],_,_,_=>trivial
 | m::r,T,hb,ha=>by
  obtain⟨X,h1,_⟩:=ru r (T++[cH T m])
  have CX:jw T.length m:=by simpa using hb 0 m (by simp)
  simp only[ij];refine⟨λhf=>?_,CY r _ (λk x hx=>?_) (λk x hx=>?_)⟩
  ·have:=ha 0 m (by simp) hf
   simp only[aU] at this;rw[h1,List.append_assoc,cf CX.1,cf CX.2.1] at this;exact this
  ·have:=hb (k+1) x (by simpa using hx)
   rw[List.length_append,List.length_singleton,show T.length+1+k=T.length+(k+1) by omega];exact this
  ·have:=ha (k+1) x (by simpa using hx)
   simp only[aU] at this;exact this
def Sk (T:List Ty) (G:aV) (sc:Sc):Prop:=∀ s U,look G s=some U->∃ i:Nat,cE sc s=(i:Int)/\(ai T i).bare=U
theorem Sk.snoc {T:List Ty} {G:aV} {sc:Sc} {nm:List UInt8} {U:Ty} {z:Int} (h:Sk T G sc) (hz:0<=z) (hu:(ai T z).bare=U):Sk T (G++[(nm,U)]) (sc++[(nm,z)]):=λs V hs=>by
 rw[fw] at hs;rw[iT]
 by_cases e:nm=s
 ·rw[if_pos e] at hs ⊢
  simp only[Option.some.injEq] at hs;subst hs;exact⟨z.toNat,by omega,by rw[Int.toNat_of_nonneg hz];exact hu⟩
 ·rw[if_neg e] at hs ⊢
  exact h s V hs
def qC (T:List Ty) (ns:List NR) (lo hi:Nat):Prop:=∀ (i:Nat) n,lo<=i->i<hi->ns[i]?=some n->(n.form=7\/n.form=11->(ai T n.p1).bare=(ai T n.p2).bare)/\(n.form=4->(Ty.p 0 (ai T n.p0) (ai T n.p1)).size<=63)
theorem qC.join {T:List Ty} {ns:List NR} {a b c:Nat} (h:qC T ns a b) (g:qC T ns b c):qC T ns a c:=λi n h1 h2 hn=>by
 by_cases e:i<b
 ·exact h i n h1 e hn
 ·exact g i n (by omega) h2 hn
theorem qC.root {T:List Ty} {ns:List NR} {k:Nat} {n:NR} (hn:ns[k]?=some n) (h1:n.form=7\/n.form=11->(ai T n.p1).bare=(ai T n.p2).bare) (h2:n.form=4->(Ty.p 0 (ai T n.p0) (ai T n.p1)).size<=63):qC T ns k (k+1):=λi m a b hm=>by
 have:i=k:=by omega
 subst this;rw[hn] at hm;simp only[Option.some.injEq] at hm;subst hm;exact⟨h1,h2⟩
theorem CZ (b:Nat) (t:PT):(0:Int)<=((b+t.cnt:Nat):Int)-1:=by have:=cV t;omega
theorem zK {ns:List NR} {T:List Ty} {ρ:Nat->Int} (H:∀ i n,ns[i]?=some n->ai T (i:Nat)=cH T (fo n (ρ i))) {G:aV} {e:PT} {U:Ty} (h:WT G e U):∀ (sc:Sc) (b:Nat) (pre ms post:List NR),NA sc e b ms->ns=pre++(ms++post)->pre.length=b->Sk T G sc ->
  (ai T (((b+e.cnt:Nat):Int)-1)).bare=U/\qC T ns b (b+e.cnt):=by
 induction h with
 | @num G p s =>
  intro sc b pre ms post aO hns hb hE;simp only[NA] at aO;subst aO;have hn:=at_root (ks:=[]) hns;rw[hb] at hn;have hty:=H _ _ hn;simp only[List.length_nil,Nat.add_zero] at hn hty;simp only[PT.cnt,show (((b+1:Nat):Int)-1)=(b:Int) by omega];rw[hty];exact⟨by simp[cH,fo,Ty.bare],qC.root hn (by simp) (by simp)⟩
 | @name G p s U hs =>
  intro sc b pre ms post aO hns hb hE;simp only[NA] at aO;subst aO;have hn:=at_root (ks:=[]) hns;rw[hb] at hn;have hty:=H _ _ hn;simp only[List.length_nil,Nat.add_zero] at hn hty;obtain⟨i,h1,h2⟩:=hE _ _ hs;simp only[PT.cnt,show (((b+1:Nat):Int)-1)=(b:Int) by omega];rw[hty];exact⟨by simp[cH,fo,h1,h2],qC.root hn (by simp) (by simp)⟩
 | @aP G p nm rg a b UA UB ha hb aF bu =>
  intro sc bs pre ms post aO hns hbs hE;simp only[NA,bU,cK,Bool.false_eq_true,if_false,if_true] at aO;obtain⟨ks,aL,⟨a1,c1,ct,⟨a2,c2,eZ,⟨_,rfl⟩,rfl⟩,rfl⟩,rfl⟩:=aO;rw[List.append_nil] at hns;have la:=NA.len ct;have lb:=NA.len eZ;have hroot:=at_root hns;rw[hbs,List.length_append,la,lb] at hroot;have hty:=H _ _ hroot;obtain⟨uS,oa⟩:=aF sc bs pre a1 (a2++([_]++post)) ct (by rw[hns];simp only[List.append_assoc];rfl) hbs hE;obtain⟨tD,ob⟩:=bu _ (bs+a.cnt) (pre++a1) a2 ([_]++post) eZ (by rw[hns];simp only[List.append_assoc];rfl) (by rw[List.length_append,hbs,la]) (hE.snoc (CZ bs a) uS);simp only[PT.cnt,ax,Nat.add_zero,cW];refine⟨?_,?_⟩
  ·rw[hty]
   simp only[cH,fo,mX,az,List.getD_cons_succ,List.getD_cons_zero]
   simpa using tD
  ·have:=(oa.join ob).join (qC.root (by rw[Nat.add_assoc];exact hroot) (by simp[mX]) (by simp[mX]))
   rwa [show bs+a.cnt+b.cnt+1=bs+(1+(a.cnt+b.cnt)) by omega] at this
 | @pair G p nm rg a b UA UB ha hb hsz aF bu =>
  intro sc bs pre ms post aO hns hbs hE;simp only[NA,bU,cK,Bool.false_eq_true,if_false] at aO;obtain⟨ks,aL,⟨a1,c1,ct,⟨a2,c2,eZ,⟨_,rfl⟩,rfl⟩,rfl⟩,rfl⟩:=aO;rw[List.append_nil] at hns;have la:=NA.len ct;have lb:=NA.len eZ;have hroot:=at_root hns;rw[hbs,List.length_append,la,lb] at hroot;have hty:=H _ _ hroot;obtain⟨uS,oa⟩:=aF sc bs pre a1 (a2++([_]++post)) ct (by rw[hns];simp only[List.append_assoc];rfl) hbs hE;obtain⟨tD,ob⟩:=bu sc (bs+a.cnt) (pre++a1) a2 ([_]++post) eZ (by rw[hns];simp only[List.append_assoc];rfl) (by rw[List.length_append,hbs,la]) hE;simp only[PT.cnt,ax,Nat.add_zero,cW];refine⟨?_,?_⟩
  ·rw[hty]
   simp only[cH,fo,mI,az,List.getD_cons_succ,List.getD_cons_zero];simp only[Nat.reduceEqDiff,if_false,if_true,Ty.bare,uS,tD]
  ·have hs2:(Ty.p 0 (ai T (((bs+a.cnt:Nat):Int)-1)) (ai T (((bs+a.cnt+b.cnt:Nat):Int)-1))).size<=63:=by
    rw[<- iH];simp only[Ty.bare,uS,tD];exact hsz
   have:=(oa.join ob).join (qC.root (by rw[Nat.add_assoc];exact hroot) (by simp[mI]) (λ_=>by simpa only[az,List.getD_cons_succ,List.getD_cons_zero] using hs2))
   rwa [show bs+a.cnt+b.cnt+1=bs+(1+(a.cnt+b.cnt)) by omega] at this
 | @fst G p nm rg a UA UB ha aF =>
  intro sc bs pre ms post aO hns hbs hE;simp only[NA,bU,cK,Bool.false_eq_true,if_false] at aO;obtain⟨ks,aL,⟨a1,c1,ct,⟨_,rfl⟩,rfl⟩,rfl⟩:=aO;rw[List.append_nil] at hns;have la:=NA.len ct;have hroot:=at_root hns;rw[hbs,la] at hroot;have hty:=H _ _ hroot;obtain⟨uS,oa⟩:=aF sc bs pre a1 ([_]++post) ct (by rw[hns];simp only[List.append_assoc];rfl) hbs hE;simp only[PT.cnt,ax,Nat.add_zero,cW];obtain⟨r,u,v,hp,hu,hv⟩:=iR uS;refine⟨?_,?_⟩
  ·rw[hty]
   simp only[cH,fo,mY,az,List.getD_cons_succ,List.getD_cons_zero];simp only[Nat.reduceEqDiff,if_false,if_true];rw[hp];exact hu
  ·have:=oa.join (qC.root hroot (by simp[mY]) (by simp[mY]))
   rwa [show bs+a.cnt+1=bs+(1+a.cnt) by omega] at this
 | @snd G p nm rg a UA UB ha aF =>
  intro sc bs pre ms post aO hns hbs hE;simp only[NA,bU,cK,Bool.false_eq_true,if_false] at aO;obtain⟨ks,aL,⟨a1,c1,ct,⟨_,rfl⟩,rfl⟩,rfl⟩:=aO;rw[List.append_nil] at hns;have la:=NA.len ct;have hroot:=at_root hns;rw[hbs,la] at hroot;have hty:=H _ _ hroot;obtain⟨uS,oa⟩:=aF sc bs pre a1 ([_]++post) ct (by rw[hns];simp only[List.append_assoc];rfl) hbs hE;simp only[PT.cnt,ax,Nat.add_zero,cW];obtain⟨r,u,v,hp,hu,hv⟩:=iR uS;refine⟨?_,?_⟩
  ·rw[hty]
   simp only[cH,fo,mZ,az,List.getD_cons_succ,List.getD_cons_zero];simp only[Nat.reduceEqDiff,if_false,if_true];rw[hp];exact hv
  ·have:=oa.join (qC.root hroot (by simp[mZ]) (by simp[mZ]))
   rwa [show bs+a.cnt+1=bs+(1+a.cnt) by omega] at this
 | @di G p nm rg a b c U ha hb hc aF bu fe =>
  intro sc bs pre ms post aO hns hbs hE;simp only[NA,bU,cK,Bool.false_eq_true,if_false] at aO;obtain⟨ks,aL,⟨a1,c1,ct,⟨a2,c2,eZ,⟨a3,c3,uy,⟨_,rfl⟩,rfl⟩,rfl⟩,rfl⟩,rfl⟩:=aO;rw[List.append_nil] at hns;have la:=NA.len ct;have lb:=NA.len eZ;have lc:=NA.len uy;have hroot:=at_root hns;rw[hbs,List.length_append,List.length_append,la,lb,lc] at hroot;have hty:=H _ _ hroot;obtain⟨uS,oa⟩:=aF sc bs pre a1 (a2++(a3++([_]++post))) ct (by rw[hns];simp only[List.append_assoc];rfl) hbs hE;obtain⟨tD,ob⟩:=bu sc (bs+a.cnt) (pre++a1) a2 (a3++([_]++post)) eZ (by rw[hns];simp only[List.append_assoc];rfl) (by rw[List.length_append,hbs,la]) hE;obtain⟨hbc,oc⟩:=fe sc (bs+a.cnt+b.cnt) (pre++a1++a2) a3 ([_]++post) uy (by rw[hns];simp only[List.append_assoc];rfl) (by rw[List.length_append,List.length_append,hbs,la,lb]) hE;simp only[PT.cnt,ax,Nat.add_zero,cW];refine⟨?_,?_⟩
  ·rw[hty]
   simp only[cH,fo,tT,az,List.getD_cons_succ,List.getD_cons_zero]
   simpa using tD
  ·have:=((oa.join ob).join oc).join (qC.root (by rw[Nat.add_assoc,Nat.add_assoc];exact hroot) (λ_=>by simp only[az,List.getD_cons_succ,List.getD_cons_zero];rw[tD,hbc]) (by simp[tT]))
   rwa [show bs+a.cnt+b.cnt+c.cnt+1=bs+(1+(a.cnt+(b.cnt+c.cnt))) by omega] at this
 | @two G p k nm rg a b hkk ha hb aF bu =>
  intro sc bs pre ms post aO hns hbs hE
  have hkb:bU k=[false,false]:=by rcases hkk with rfl | rfl | rfl <;> rfl
  have A9:aZ k=8\/aZ k=9\/aZ k=10:=by rcases hkk with rfl | rfl | rfl <;> decide
  simp only[NA,hkb,cK,Bool.false_eq_true,if_false] at aO;obtain⟨ks,aL,⟨a1,c1,ct,⟨a2,c2,eZ,⟨_,rfl⟩,rfl⟩,rfl⟩,rfl⟩:=aO;rw[List.append_nil] at hns;have la:=NA.len ct;have lb:=NA.len eZ;have hroot:=at_root hns;rw[hbs,List.length_append,la,lb] at hroot;have hty:=H _ _ hroot;obtain⟨uS,oa⟩:=aF sc bs pre a1 (a2++([_]++post)) ct (by rw[hns];simp only[List.append_assoc];rfl) hbs hE;obtain⟨tD,ob⟩:=bu sc (bs+a.cnt) (pre++a1) a2 ([_]++post) eZ (by rw[hns];simp only[List.append_assoc];rfl) (by rw[List.length_append,hbs,la]) hE;simp only[PT.cnt,ax,Nat.add_zero,cW];refine⟨?_,?_⟩
  ·rw[hty]
   simp only[cH,fo]
   rcases A9 with h | h | h <;> simp[h,Ty.bare]
  ·have:=(oa.join ob).join (qC.root (by rw[Nat.add_assoc];exact hroot) (λh=>by simp only at h;omega) (λh=>by simp only at h;omega))
   rwa [show bs+a.cnt+b.cnt+1=bs+(1+(a.cnt+b.cnt)) by omega] at this
 | @loop G p nm rg a b c U ha hb hc aF bu fe =>
  intro sc bs pre ms post aO hns hbs hE;simp only[NA,bU,cK,Bool.false_eq_true,if_false,if_true] at aO;obtain⟨ks,aL,⟨a1,c1,ct,⟨a2,c2,eZ,⟨a3,c3,uy,⟨_,rfl⟩,rfl⟩,rfl⟩,rfl⟩,rfl⟩:=aO;rw[List.append_nil] at hns;have la:=NA.len ct;have lb:=NA.len eZ;have lc:=NA.len uy;have hroot:=at_root hns;rw[hbs,List.length_append,List.length_append,la,lb,lc] at hroot;have hty:=H _ _ hroot;obtain⟨uS,oa⟩:=aF sc bs pre a1 (a2++(a3++([_]++post))) ct (by rw[hns];simp only[List.append_assoc];rfl) hbs hE;obtain⟨tD,ob⟩:=bu sc (bs+a.cnt) (pre++a1) a2 (a3++([_]++post)) eZ (by rw[hns];simp only[List.append_assoc];rfl) (by rw[List.length_append,hbs,la]) hE;obtain⟨hbc,oc⟩:=fe _ (bs+a.cnt+b.cnt) (pre++a1++a2) a3 ([_]++post) uy (by rw[hns];simp only[List.append_assoc];rfl) (by rw[List.length_append,List.length_append,hbs,la,lb]) (hE.snoc (CZ (bs+a.cnt) b) tD);simp only[PT.cnt,ax,Nat.add_zero,cW];refine⟨?_,?_⟩
  ·rw[hty]
   simp only[cH,fo,kY,az,List.getD_cons_succ,List.getD_cons_zero]
   simpa using tD
  ·have:=((oa.join ob).join oc).join (qC.root (by rw[Nat.add_assoc,Nat.add_assoc];exact hroot) (λ_=>by simp only[az,List.getD_cons_succ,List.getD_cons_zero];rw[tD,hbc]) (by simp[kY]))
   rwa [show bs+a.cnt+b.cnt+c.cnt+1=bs+(1+(a.cnt+(b.cnt+c.cnt))) by omega] at this
 | @new G p nm rg a U ha aF =>
  intro sc bs pre ms post aO hns hbs hE;simp only[NA,bU,cK,Bool.false_eq_true,if_false] at aO;obtain⟨ks,aL,⟨a1,c1,ct,⟨_,rfl⟩,rfl⟩,rfl⟩:=aO;rw[List.append_nil] at hns;have la:=NA.len ct;have hroot:=at_root hns;rw[hbs,la] at hroot;have hty:=H _ _ hroot
  have hf:aZ .new=12:=by decide
  obtain⟨uS,oa⟩:=aF sc bs pre a1 ([_]++post) ct (by rw[hns];simp only[List.append_assoc];rfl) hbs hE;simp only[PT.cnt,ax,Nat.add_zero,cW];refine⟨?_,?_⟩
  ·rw[hty]
   simp only[cH,fo,hf,az,List.getD_cons_zero]
   simpa using uS
  ·have:=oa.join (qC.root hroot (by simp[hf]) (by simp[hf]))
   rwa [show bs+a.cnt+1=bs+(1+a.cnt) by omega] at this
open Go.RowKit
theorem vI {W w:World} {b:Nat} (h:Below b W w):Below b W w.drew:=h.trans ⟨rfl,rfl,rfl,Nat.le_refl _,λ_ _=>rfl⟩
theorem gJ {W w:World} {n:Nat} {b:Nat} (h:Below b W w):Below b W (w.drewN n):=h.trans ⟨rfl,rfl,rfl,Nat.le_refl _,λ_ _=>rfl⟩
theorem cX {w W:World} (h:Below w.heap.size w W) (o:Obj):Below w.heap.size w (W.alloc o):=h.alloc h.size o
theorem l9 {P:Program} {ops:Array Oper} {o:Oper} {a:Act} {w:World} {K:Act->World->Prop} {Q:Exit->Act->World->Prop} {E:Prop} (hg:o.guard=none)
  (f:FuncId) (args:Array Value) (hrun:(execOp a.eval o).run P w=.ok (.enter f args) w) (h:Calls P f args w λe w'=>∃ v,e=.returned v/\K (a.put o.dst v) w'):if Region.wanted o (yielded ops a.tmps)=true then Oper.wp P o a w K Q else E:=by
 have hw:Region.wanted o (yielded ops a.tmps)=true:=by simp[Region.wanted,hg]
 rw[if_pos hw];unfold Oper.wp;rw[hrun];refine Calls.mono h ?_;rintro e w' ⟨v,rfl,hk⟩;exact hk
abbrev nz:Array Value:=#[.int .i64 0,.int .i64 0,.int .i64 0,.int .i64 0,.string ⟨#[]⟩,.int .i64 0,.int .i64 0,.int .i64 0,.int .i64 0,.int .i64 0]
theorem uC {w:World} {b:Nat} (h:w.heap[b]?=some (.cells nz 108 (0,0))):w.cell? ⟨b,0,none⟩=some (.int .i64 0)/\w.cell? ⟨b,1,none⟩=some (.int .i64 0)/\w.cell? ⟨b,2,none⟩=some (.int .i64 0)/\w.cell? ⟨b,3,none⟩=some (.int .i64 0)/\w.cell? ⟨b,4,none⟩=some (.string ⟨#[]⟩)/\w.cell? ⟨b,5,none⟩=some (.int .i64 0)/\w.cell? ⟨b,6,none⟩=some (.int .i64 0)/\w.cell? ⟨b,7,none⟩=some (.int .i64 0)/\w.cell? ⟨b,8,none⟩=some (.int .i64 0)/\w.cell? ⟨b,9,none⟩=some (.int .i64 0):=by
 refine⟨?_,?_,?_,?_,?_,?_,?_,?_,?_,?_⟩ <;> (rw[aa h];rfl)
theorem xq {w:World} {b:Nat} (h:w.heap[b]?=some (.cells nz 108 (0,0))):w.frozen? ⟨b,0,none⟩=false/\w.frozen? ⟨b,1,none⟩=false/\w.frozen? ⟨b,2,none⟩=false/\w.frozen? ⟨b,3,none⟩=false/\w.frozen? ⟨b,4,none⟩=false/\w.frozen? ⟨b,5,none⟩=false/\w.frozen? ⟨b,6,none⟩=false/\w.frozen? ⟨b,7,none⟩=false/\w.frozen? ⟨b,8,none⟩=false/\w.frozen? ⟨b,9,none⟩=false :=
 ⟨ag h 0,ag h 1,ag h 2,ag h 3,ag h 4,ag h 5,ag h 6,ag h 7,ag h 8,ag h 9⟩
theorem fB {B b o:Nat} {w0 w:World} {v:Value} (h:Below B w0 w) (hb:B<=b):Below B w0 (w.setCell ⟨b,o,none⟩ v) :=
 ⟨h.os,h.tape,h.output,by have:=h.size;simp only[World.setCell,Array.size_modify];omega,λk hk=>by rw[aq _ _ (by simp only;omega)];exact h.block k hk⟩
theorem C0 {B b:Nat} {w0 w:World} (v0 v1 v2 v3 v4 v5 v6 v7 v8 v9:Value) (hw:Below B w0 w) (hb:B<=b) (h:w.heap[b]?=some (.cells nz 108 (0,0))) :
  ((((((((((w.setCell ⟨b,0,none⟩ v0).setCell ⟨b,1,none⟩ v1).setCell ⟨b,2,none⟩ v2).setCell ⟨b,3,none⟩ v3).setCell ⟨b,4,none⟩ v4).setCell ⟨b,5,none⟩ v5).setCell ⟨b,6,none⟩ v6).setCell ⟨b,7,none⟩ v7).setCell ⟨b,8,none⟩ v8).setCell ⟨b,9,none⟩ v9).heap[b]?=some (.cells #[v0,v1,v2,v3,v4,v5,v6,v7,v8,v9] 108 (0,0))/\Below B w0 ((((((((((w.setCell ⟨b,0,none⟩ v0).setCell ⟨b,1,none⟩ v1).setCell ⟨b,2,none⟩ v2).setCell ⟨b,3,none⟩ v3).setCell ⟨b,4,none⟩ v4).setCell ⟨b,5,none⟩ v5).setCell ⟨b,6,none⟩ v6).setCell ⟨b,7,none⟩ v7).setCell ⟨b,8,none⟩ v8).setCell ⟨b,9,none⟩ v9):=by
 have h0:(w.setCell ⟨b,0,none⟩ v0).heap[b]?=some (.cells #[v0,.int .i64 0,.int .i64 0,.int .i64 0,.string ⟨#[]⟩,.int .i64 0,.int .i64 0,.int .i64 0,.int .i64 0,.int .i64 0] 108 (0,0)):=aA h 0 _;have h1:((w.setCell ⟨b,0,none⟩ v0).setCell ⟨b,1,none⟩ v1).heap[b]?=some (.cells #[v0,v1,.int .i64 0,.int .i64 0,.string ⟨#[]⟩,.int .i64 0,.int .i64 0,.int .i64 0,.int .i64 0,.int .i64 0] 108 (0,0)):=aA h0 1 _;have h2:(((w.setCell ⟨b,0,none⟩ v0).setCell ⟨b,1,none⟩ v1).setCell ⟨b,2,none⟩ v2).heap[b]?=some (.cells #[v0,v1,v2,.int .i64 0,.string ⟨#[]⟩,.int .i64 0,.int .i64 0,.int .i64 0,.int .i64 0,.int .i64 0] 108 (0,0)):=aA h1 2 _;have h3:((((w.setCell ⟨b,0,none⟩ v0).setCell ⟨b,1,none⟩ v1).setCell ⟨b,2,none⟩ v2).setCell ⟨b,3,none⟩ v3).heap[b]?=some (.cells #[v0,v1,v2,v3,.string ⟨#[]⟩,.int .i64 0,.int .i64 0,.int .i64 0,.int .i64 0,.int .i64 0] 108 (0,0)):=aA h2 3 _;have h4:(((((w.setCell ⟨b,0,none⟩ v0).setCell ⟨b,1,none⟩ v1).setCell ⟨b,2,none⟩ v2).setCell ⟨b,3,none⟩ v3).setCell ⟨b,4,none⟩ v4).heap[b]?=some (.cells #[v0,v1,v2,v3,v4,.int .i64 0,.int .i64 0,.int .i64 0,.int .i64 0,.int .i64 0] 108 (0,0)):=aA h3 4 _;have h5:((((((w.setCell ⟨b,0,none⟩ v0).setCell ⟨b,1,none⟩ v1).setCell ⟨b,2,none⟩ v2).setCell ⟨b,3,none⟩ v3).setCell ⟨b,4,none⟩ v4).setCell ⟨b,5,none⟩ v5).heap[b]?=some (.cells #[v0,v1,v2,v3,v4,v5,.int .i64 0,.int .i64 0,.int .i64 0,.int .i64 0] 108 (0,0)):=aA h4 5 _;have h6:(((((((w.setCell ⟨b,0,none⟩ v0).setCell ⟨b,1,none⟩ v1).setCell ⟨b,2,none⟩ v2).setCell ⟨b,3,none⟩ v3).setCell ⟨b,4,none⟩ v4).setCell ⟨b,5,none⟩ v5).setCell ⟨b,6,none⟩ v6).heap[b]?=some (.cells #[v0,v1,v2,v3,v4,v5,v6,.int .i64 0,.int .i64 0,.int .i64 0] 108 (0,0)):=aA h5 6 _;have h7:((((((((w.setCell ⟨b,0,none⟩ v0).setCell ⟨b,1,none⟩ v1).setCell ⟨b,2,none⟩ v2).setCell ⟨b,3,none⟩ v3).setCell ⟨b,4,none⟩ v4).setCell ⟨b,5,none⟩ v5).setCell ⟨b,6,none⟩ v6).setCell ⟨b,7,none⟩ v7).heap[b]?=some (.cells #[v0,v1,v2,v3,v4,v5,v6,v7,.int .i64 0,.int .i64 0] 108 (0,0)):=aA h6 7 _;have h8:(((((((((w.setCell ⟨b,0,none⟩ v0).setCell ⟨b,1,none⟩ v1).setCell ⟨b,2,none⟩ v2).setCell ⟨b,3,none⟩ v3).setCell ⟨b,4,none⟩ v4).setCell ⟨b,5,none⟩ v5).setCell ⟨b,6,none⟩ v6).setCell ⟨b,7,none⟩ v7).setCell ⟨b,8,none⟩ v8).heap[b]?=some (.cells #[v0,v1,v2,v3,v4,v5,v6,v7,v8,.int .i64 0] 108 (0,0)):=aA h7 8 _
 have h9:((((((((((w.setCell ⟨b,0,none⟩ v0).setCell ⟨b,1,none⟩ v1).setCell ⟨b,2,none⟩ v2).setCell ⟨b,3,none⟩ v3).setCell ⟨b,4,none⟩ v4).setCell ⟨b,5,none⟩ v5).setCell ⟨b,6,none⟩ v6).setCell ⟨b,7,none⟩ v7).setCell ⟨b,8,none⟩ v8).setCell ⟨b,9,none⟩ v9).heap[b]?=some (.cells #[v0,v1,v2,v3,v4,v5,v6,v7,v8,v9] 108 (0,0)):=aA h8 9 _;exact⟨h9,fB (fB (fB (fB (fB (fB (fB (fB (fB (fB hw hb) hb) hb) hb) hb) hb) hb) hb) hb) hb⟩
theorem O7 {w W0 w':World} {sb o:Nat} {A:Array Value} {T:TypeId} {ev nv:Value} (hy:w.heap[sb]?=some (.cells A T (0,0))) (hW:Below w.heap.size w W0) (hg:W0.grownBy w' ev.ownBlock) (rY:ev.ownBlock≠some sb) :
  (w'.setCell ⟨sb,o,none⟩ nv).heap[sb]?=some (.cells (A.setIfInBounds o nv) T (0,0))/\(∀ k,k<w.heap.size->k≠sb->ev.ownBlock≠some k->(w'.setCell ⟨sb,o,none⟩ nv).heap[k]?=w.heap[k]?)/\w.heap.size<=(w'.setCell ⟨sb,o,none⟩ nv).heap.size/\(w'.setCell ⟨sb,o,none⟩ nv).os=w.os/\(w'.setCell ⟨sb,o,none⟩ nv).tape=w.tape/\(w'.setCell ⟨sb,o,none⟩ nv).output=w.output:=by
 have hl:=af hy
 have yW:W0.heap[sb]?=some (.cells A T (0,0)):=by rw[hW.block sb hl];exact hy
 have yw:=cY hg yW rY;refine⟨aA yw o _,λk hk hks hke=>?_,?_,hg.os.trans hW.os,hg.tape.trans hW.tape,hg.output.trans hW.output⟩
 ·rw[aq _ _ (by simpa using hks),hg.block k (by have:=hW.size;omega) (λe=>hke e.symm),hW.block k hk]
 ·have:=hW.size;have:=hg.size;simp only[World.setCell,Array.size_modify];omega
structure XX (w0:World) (sb q:Nat) (n0:NR) (wr:World) (ev:Value) (k:Nat):Prop where
 b:Below sb w0 wr
 y:wr.heap[sb]?=some (.cells #[.slice none 0 0,.slice none 0 0,ev] 130 (0,0))
 n:wr.heap[q]?=some (cA n0)
 r:wr.ownsRow 0 3 1 ev k (dc (List.range k))
 e:∀ g,ev.ownBlock=some g->sb<g/\g≠q
 sq:sb<q
theorem XX.add {w0 wr W0 w':World} {sb q:Nat} {n0:NR} {ev:Value} {k g cap:Nat} (h:XX w0 sb q n0 wr ev k) (hW:Below wr.heap.size wr W0) (hg:W0.grownBy w' ev.ownBlock)
  (hown:w'.ownsRow 0 3 1 (.slice (some ⟨g,0,none⟩) (k+1) cap) (k+1) (dc (List.range k)++[.int .i64 k])) (jC:ev.ownBlock=some g\/W0.heap.size<=g) :
  XX w0 sb q n0 (w'.setCell ⟨sb,2,none⟩ (.slice (some ⟨g,0,none⟩) (k+1) cap)) (.slice (some ⟨g,0,none⟩) (k+1) cap) (k+1):=by
 have hsl:=af h.y;have TK:=af h.n;have Cf:=hW.size;obtain⟨h1,h2,h3,h4,h5,h6⟩:=O7 (o:=2) (nv:=.slice (some ⟨g,0,none⟩) (k+1) cap) h.y hW hg (λe=>by have:=(h.e _ e).1;omega)
 have hgs:sb<g/\g≠q:=by
  rcases jC with e | e
  ·exact h.e g e
  ·exact⟨by omega,by omega⟩
 have hsq:=h.sq;have hbs:=h.b.size;refine⟨⟨h4.trans h.b.os,h5.trans h.b.tape,h6.trans h.b.output,by omega,λj hj=>?_⟩,h1,?_,?_,λj hj=>?_,hsq⟩
 ·rw[h2 j (by omega) (by omega) (λe=>by have:=(h.e j e).1;omega)];exact h.b.block j hj
 ·rw[h2 q TK (by omega) (λe=>(h.e q e).2 rfl)];exact h.n
 ·rw[List.range_succ]
  unfold dc at hown ⊢;rw[List.map_append];exact ay hown (λj hj=>aq _ _ (by simp only[Value.ownBlock,Option.some.injEq] at hj;subst hj;simp only;omega))
 ·simp only[Value.ownBlock,Option.some.injEq] at hj;subst hj;exact hgs
structure Gy (w0:World) (sb g cap B:Nat) (wr:World) (pv tv:Value) (tb:List TP) (K E:List Nat):Prop where
 b:Below sb w0 wr
 c:gj sb 0 #[pv,tv,.slice (some ⟨g,0,none⟩) B cap] 130 wr pv tv tb K
 r:wr.ownsRow 0 3 1 (.slice (some ⟨g,0,none⟩) B cap) B (dc E)
 gs:sb<g
 pg:pv.ownBlock≠some g
 tg:tv.ownBlock≠some g
 pb:∀ j,pv.ownBlock=some j->sb<j
 tb':∀ j,tv.ownBlock=some j->sb<j
theorem Gy.below {w0 wr wr':World} {sb g cap B:Nat} {pv tv:Value} {tb:List TP} {K E:List Nat} (h:Gy w0 sb g cap B wr pv tv tb K E) (hb:Below wr.heap.size wr wr'):Gy w0 sb g cap B wr' pv tv tb K E :=
 ⟨h.b.trans (hb.mono (Nat.le_of_lt (af h.c.y))),h.c.below hb,aB h.r hb,h.gs,h.pg,h.tg,h.pb,h.tb'⟩
theorem Gy.add {w0 wr wr':World} {sb g cap B:Nat} {pv tv nS qJ:Value} {tb tb2:List TP} {K K2 E:List Nat} (h:Gy w0 sb g cap B wr pv tv tb K E) (hf:vZ sb wr wr' pv tv nS qJ) (hc:gj sb 0 #[nS,qJ,.slice (some ⟨g,0,none⟩) B cap] 130 wr' nS qJ tb2 K2):Gy w0 sb g cap B wr' nS qJ tb2 K2 E:=by
 have hgl:g<wr.heap.size:=(h.r.lt g rfl).2;have hgs:=h.gs;have hsl:=af h.c.y;have hbs:=h.b.size;refine⟨⟨hf.os.trans h.b.os,hf.tape.trans h.b.tape,hf.output.trans h.b.output,by have:=hf.size;omega,λk hk=>?_⟩,hc,ay h.r (λk hk=>?_),hgs,λe=>?_,λe=>?_,λj hj=>?_,λj hj=>?_⟩
 ·rw[hf.blk k (by omega) (by omega) (λe=>by have:=h.pb k e;omega) (λe=>by have:=h.tb' k e;omega)];exact h.b.block k hk
 ·simp only[Value.ownBlock,Option.some.injEq] at hk
  subst hk;exact hf.blk g hgl (by omega) h.pg h.tg
 ·rcases hf.p g e with e | e
  ·exact h.pg e
  ·omega
 ·rcases hf.t g e with e | e
  ·exact h.tg e
  ·omega
 ·rcases hf.p j hj with e | e
  ·exact h.pb j e
  ·omega
 ·rcases hf.t j hj with e | e
  ·exact h.tb' j e
  ·omega
theorem Gy.Wx {w0 wr wr':World} {sb g cap B:Nat} {pv tv:Value} {tb:List TP} {K E E':List Nat} (h:Gy w0 sb g cap B wr pv tv tb K E) (hf:Ao g wr wr') (hr:wr'.ownsRow 0 3 1 (.slice (some ⟨g,0,none⟩) B cap) B (dc E')):Gy w0 sb g cap B wr' pv tv tb K E':=by
 have hgs:=h.gs;have hsl:=af h.c.y;have hbs:=h.b.size;refine⟨⟨hf.os.trans h.b.os,hf.tape.trans h.b.tape,hf.output.trans h.b.output,by have:=hf.size;omega,λk hk=>?_⟩,?_,hr,hgs,h.pg,h.tg,h.pb,h.tb'⟩
 ·rw[hf.blk k (by omega) (by omega)];exact h.b.block k hk
 ·exact⟨by rw[hf.blk sb hsl (by omega)];exact h.c.y,h.c.a,h.c.b,ay h.c.p (λk hk=>hf.blk k (h.c.p.lt k hk).2 (λe=>h.pg (by rw[hk,e]))),ay h.c.t (λk hk=>hf.blk k (h.c.t.lt k hk).2 (λe=>h.tg (by rw[hk,e]))),h.c.py,h.c.ty,h.c.pt⟩
def TbB (B:Nat) (tb:List TP):Prop:=∀ j,(fW tb j).r<B
theorem Sl (tb:List TP) (x:TP) (j:Nat):fW (tb++[x]) j=fW tb j\/fW (tb++[x]) j=x:=by
 unfold fW
 split
 ·exact Or.inl rfl
 ·by_cases h:j-1<tb.length
  ·rw[List.getElem?_append_left h];exact Or.inl rfl
  ·rw[List.getElem?_append_right (by omega)]
   by_cases h2:j-1-tb.length=0
   ·rw[h2];exact Or.inr rfl
   ·rw[List.getElem?_eq_none (by simp;omega),List.getElem?_eq_none (by omega)];exact Or.inl rfl
theorem Z6 {B:Nat} {tb:List TP} (h:TbB B tb) (K:List Nat) (n:NR) (r:Nat) (hr:r<B):TbB B (iX tb K n r).2:=by
 have hp:∀ a b,TbB B (dH tb r a b).2:=λa b=>by
  unfold dH
  split
  ·exact h
  ·intro j
   simp only
   rcases Sl tb ⟨r,a,b,1+(fW tb a).sz+(fW tb b).sz⟩ j with e | e
   ·rw[e];exact h j
   ·rw[e];exact hr
 unfold iX
 repeat' split
 all_goals first | exact h | exact hp _ _
structure LQ (fb:Nat) (w:World) (nv ov pv tv:Value) (tb:List TP) (K:List Nat) (ns:List NR) (op:List Int):Prop where
 c:gj fb 2 #[nv,ov,pv,tv] 135 w pv tv tb K
 t:bB w nv ov ns op
theorem LQ.below {fb:Nat} {w w':World} {nv ov pv tv:Value} {tb:List TP} {K:List Nat} {ns:List NR} {op:List Int} (h:LQ fb w nv ov pv tv tb K ns op) (hb:Below w.heap.size w w'):LQ fb w' nv ov pv tv tb K ns op:=⟨h.c.below hb,h.t.below hb⟩
theorem r7 (fb:Nat) (w:World) (nv ov pv tv:Value) (tb:List TP) (K:List Nat) (ns:List NR) (op:List Int) (D:List Ty) (T:List Ty) (h:LQ fb w nv ov pv tv tb K ns op) (hR:Rel tb D K T) (hl:tb.length<=9000) (hK:K.length<=9000) (i rg:Nat) (hi:i<=9000) :
  Calls Tryz.prog 95 #[ptr fb,.int .i64 i,.int .i64 rg] w λv w'=>v=.returned (.bool ((ai T i).has rg))/\Below w.heap.size w w':=by
 obtain⟨k1,k2,k3⟩:=hR.known i;have hof:=iG w fb 2 tv K i h.c.c1 h.c.t hK (by omega);have hme:=rW fb 2 pv tb hl hR.low rg (tb.length+1) (au K i) (by omega) (by omega) w h.c.c0 h.c.p;rw[wU hR rg _ _ (by omega) k2,<- k1] at hme;have HOF:Hid _:=hof;have Q1:Hid _:=hme;have hfl:=af h.c.y;generalize au K i=kk at *;generalize (ai T i).has rg=mm at *;clear hof hme h hR k1 k2 k3
 show Calls _ _ #[Value.pointer (some ⟨fb,0,none⟩),_,_] w _
 go_enter Tryz.func95,Tryz.ntmps95
 go_wp2_with fail
 refine Calls.mono HOF.out ?_;rintro _ _ ⟨rfl,rfl⟩
 go_wp2_with fail
 refine Calls.mono Q1.out ?_;rintro _ w2 ⟨rfl,hb2⟩;have eC:Hid _:=hb2;clear hb2
 go_wp2
 go_ret
 exact⟨rfl,eC.out⟩
def dA (T:List Ty) (rg:Nat):List NR->Nat->Nat->Nat->Nat × Nat
 | [],_,a,b=>(a,b)
 | n::r,i,a,b=>if (ai T i).has rg=true then dA T rg r (i+1) (if n.at_<a then n.at_ else a) (if b<n.aL then n.aL else b) else dA T rg r (i+1) a b
def ew (T:List Ty) (rg a b:Nat):List NR->Nat->Int
 | [],_=>-1
 | n::r,i=>if n.at_<=a/\b<=n.aL/\(ai T i).has rg=false then (i:Int) else ew T rg a b r (i+1)
theorem O8 (fb:Nat) (w:World) (x1:Option Addr) (n1 c1:Nat) (x2:Option Addr) (n2 c2:Nat) (pv tv:Value) (tb:List TP) (K:List Nat) (ns:List NR) (op:List Int) (D:List Ty) (T:List Ty) (h:LQ fb w (.slice x1 n1 c1) (.slice x2 n2 c2) pv tv tb K ns op) (hR:Rel tb D K T) (hl:tb.length<=9000) (hK:K.length<=9000) (hn:ns.length<=9000) (rg:Nat) (n0:NR) (h0:ns[ns.length-1]?=some n0) :
  Calls Tryz.prog 94 #[ptr fb,.int .i64 rg] w λv w'=>v=.returned (.tuple #[.int .i64 (dA T rg ns 0 n0.aL n0.at_).1,.int .i64 (dA T rg ns 0 n0.aL n0.at_).2])/\Below w.heap.size w w':=by
 obtain⟨m,hm⟩:∃ m,m=ns.length:=⟨_,rfl⟩
 have jD:1<=m:=by have:=(List.getElem?_eq_some_iff.1 h0).1;omega
 have hfl:=af h.c.y
 have XY:∀ W',Below w.heap.size w W'->W'.cell? ⟨fb,0,none⟩=some (.slice x1 n1 c1)/\W'.cell? ⟨fb,1,none⟩=some (.slice x2 n2 c2)/\fb<W'.heap.size:=λW' hb=>by
  have:=(h.below hb).c.y;exact⟨by rw[aa this];rfl,by rw[aa this];rfl,af this⟩
 have Z7:∀ W',Below w.heap.size w W'->Calls Tryz.prog 55 #[.agg #[.slice x1 n1 c1,.slice x2 n2 c2]] W' λv w'=>v=.returned (.int .i64 ((m-1:Nat):Int))/\Below w.heap.size w w'/\Below W'.heap.size W' w':=λW' hb=>by
  refine (uw W' _ _ ns op (h.below hb).t hn).mono ?_;rintro _ w' ⟨rfl,hb'⟩;exact⟨by congr 2;omega,hb.trans (hb'.mono hb.size),hb'⟩
 have LR:∀ W',Below w.heap.size w W'->∀ (k:Nat) (n:NR),ns[k]?=some n->Calls Tryz.prog 61 #[.agg #[.slice x1 n1 c1,.slice x2 n2 c2],.int .i64 k] W' λv w'=>v=.returned (aK n)/\Below w.heap.size w w'/\Below W'.heap.size W' w':=λW' hb k n hk=>by
  refine (eT W' _ _ ns op (h.below hb).t k n hk hn).mono ?_;rintro _ w' ⟨rfl,hb'⟩;exact⟨rfl,hb.trans (hb'.mono hb.size),hb'⟩
 have Wy:=λW' hb=>LR W' hb (m-1) n0 (by rw[hm];exact h0)
 have Un:∀ W',Below w.heap.size w W'->Calls Tryz.prog 60 #[.agg #[.slice x1 n1 c1,.slice x2 n2 c2]] W' λv w'=>v=.returned (.int .i64 m)/\Below w.heap.size w w':=λW' hb=>by
  have:=iC W' _ _ ns op (h.below hb).t;rw[<- hm] at this;refine this.mono ?_;rintro _ w' ⟨rfl,hb'⟩;exact⟨rfl,hb.trans (hb'.mono hb.size)⟩
 have Z8:∀ W',Below w.heap.size w W'->∀ i:Nat,i<m->Calls Tryz.prog 95 #[.pointer (some ⟨fb,0,none⟩),.int .i64 i,.int .i64 rg] W' λv w'=>v=.returned (.bool ((ai T i).has rg))/\Below w.heap.size w w':=λW' hb i hi=>by
  refine (r7 fb W' _ _ pv tv tb K ns op D T (h.below hb) hR hl hK i rg (by omega)).mono ?_;rintro _ w' ⟨rfl,hb'⟩;exact⟨rfl,hb.trans (hb'.mono hb.size)⟩
 obtain⟨R,Wz⟩:∃ R,R=dA T rg ns 0 n0.aL n0.at_:=⟨_,rfl⟩;rw[<- Wz];unfold aK at Wy LR;have C2:Hid _:=XY;have ML:Hid _:=Z7;have uN:Hid _:=LR;have Z9:Hid _:=Wy;have MK:Hid _:=Un;have Q1:Hid _:=Z8;have HM:Hid _:=hm;have Tv:Hid _:=Wz;obtain⟨b0,b1,bl⟩:=XY w (Below.refl _ _);rw[<- hm] at hn;clear XY Z7 LR Wy Un Z8 h hR hm Wz h0
 show Calls _ _ #[Value.pointer (some ⟨fb,0,none⟩),_] w _
 go_enter Tryz.func94,Tryz.ntmps94
 go_upto_region 1 with fail
 go_cut [6] from 11 to 20 (λt6 wx=>∃ q,t6=.pointer (some ⟨q,0,none⟩)/\wx.heap[q]?=some (cA n0)/\w.heap.size<=q/\Below w.heap.size w wx)
 case first =>
  go_region_law (first
   | (refine l9 rfl 55 #[.agg #[.slice x1 n1 c1,.slice x2 n2 c2]] ?_ ?_
      ·go_simp
      refine Calls.mono (ML.out _ ?_) ?_
      ·repeat (first | with_reducible exact Below.refl _ _ | with_reducible refine cX ?_ _ | with_reducible refine vI ?_ | with_reducible refine gJ ?_)
      rintro e w2 ⟨rfl,hb2,WA⟩;obtain⟨b0,b1,bl⟩:=C2.out _ hb2;have O9:=hb2.size
      try (have hz:w2.heap[w.heap.size]?=some (.cells nz 108 (0,0)):=(WA.block _ (by simp)).trans (aj _ _))
      refine⟨_,rfl,?_⟩)
   | (refine l9 rfl 61 #[.agg #[.slice x1 n1 c1,.slice x2 n2 c2],.int .i64 ((m-1:Nat):Int)] ?_ ?_
      ·go_simp
      refine Calls.mono (Z9.out _ ?_) ?_
      ·repeat (first | with_reducible exact Below.refl _ _ | with_reducible exact hb2 | with_reducible refine cX ?_ _ | with_reducible refine vI ?_ | with_reducible refine gJ ?_)
      rintro e w3 ⟨rfl,hb3,Pa⟩
      try (have Sn:w3.heap[w2.heap.size]?=some (.cells nz 108 (0,0)):=(Pa.block _ (by simp)).trans (aj _ _))
      try (have Sp:w3.heap[w.heap.size]?=some (.cells nz 108 (0,0)):=(Pa.block _ (af hz)).trans hz)
      try (obtain⟨z0,z1,z2,z3,z4,z5,z6,z7,z8,z9⟩:=uC Sn;obtain⟨f0,f1,f2,f3,f4,f5,f6,f7,f8,f9⟩:=xq Sn;have hzl:=af Sn)
      try (obtain⟨z0,z1,z2,z3,z4,z5,z6,z7,z8,z9⟩:=uC Sp;obtain⟨f0,f1,f2,f3,f4,f5,f6,f7,f8,f9⟩:=xq Sp;have hzl:=af Sp)
      refine⟨_,rfl,?_⟩))
  all_goals (go_wp2_with fail;go_meet)
  all_goals first
   | (have hE:=C0 (.int .i64 n0.form) (.int .i64 n0.at_) (.int .i64 n0.aL) (.int .i64 n0.num) (.string (bs n0.word)) (.int .i64 n0.region) (.int .i64 n0.source) (.int .i64 n0.p0) (.int .i64 n0.p1) (.int .i64 n0.p2) hb3 O9 Sn;exact⟨_,rfl,hE.1,O9,hE.2⟩)
   | (have hE:=C0 (.int .i64 n0.form) (.int .i64 n0.at_) (.int .i64 n0.aL) (.int .i64 n0.num) (.string (bs n0.word)) (.int .i64 n0.region) (.int .i64 n0.source) (.int .i64 n0.p0) (.int .i64 n0.p1) (.int .i64 n0.p2) hb3 (Nat.le_refl _) Sp;exact⟨_,rfl,hE.1,Nat.le_refl _,hE.2⟩)
   | exact⟨_,rfl,aj _ _,hb3.size,cX hb3 _⟩
   | skip
 case rest =>
  obtain⟨q,rfl,hq,hsq,hbc⟩:=hcut;obtain⟨d0,d1,d2,_⟩:=aC hq;have TK:=af hq;have RS:Hid _:=hbc;clear hq hbc b0 b1 ML Z9
  go_wp2
  go_loopw [7,8,9,10] (λfa be i _ wr=>∃ (k a b:Nat),k<=m/\i=.int .i64 k/\fa=.int .i64 a/\be=.int .i64 b/\Hid (dA T rg ns 0 n0.aL n0.at_=dA T rg (ns.drop k) k a b)/\Below w.heap.size w wr) (λ_ _ i _ _=>m-(intOf i).toNat)
  case atStart=>exact⟨0,n0.aL,n0.at_,Nat.zero_le _,rfl,rfl,rfl,(rfl:dA T rg ns 0 n0.aL n0.at_=dA T rg (ns.drop 0) 0 n0.aL n0.at_),RS.out⟩
  case round =>
   obtain⟨k,a,b,hk,rfl,rfl,rfl,HF,dI⟩:=hrel;obtain⟨b0,b1,bl⟩:=C2.out _ dI;have ja:=MK.out _ dI
   by_cases hlt:k<m
   ·have hkl:k<ns.length:=by have:=HM.out;omega
    obtain⟨n,hn⟩:∃ n,ns[k]?=some n:=⟨ns[k],List.getElem?_eq_getElem hkl⟩
    have pq:ns.drop k=n::ns.drop (k+1):=by
     rw[List.drop_eq_getElem_cons hkl];rw[List.getElem?_eq_getElem hkl] at hn;simp only[Option.some.injEq] at hn;rw[hn]
    have hst:=HF.out;rw[pq] at hst;simp only[dA] at hst;have jO:Hid _:=hst;have HN:Hid _:=hn;clear hst pq hn HF dI hkl
    go_wp2_with fail
    refine ja.mono ?_;rintro _ w1 ⟨rfl,hb1⟩;have hme:=Q1.out w1 hb1 k hlt;clear ja b0 b1 bl;obtain⟨b0,b1,bl⟩:=C2.out _ hb1;have dZ:Hid _:=hb1;clear hb1
    go_wp2_with fail
    refine hme.mono ?_;rintro _ w2 ⟨rfl,hb2⟩;clear hme b0 b1 bl;obtain⟨b0,b1,bl⟩:=C2.out _ hb2;have hno:=uN.out w2 hb2 k n HN.out;have eC:Hid _:=hb2;clear hb2
    cases hmm:(ai T (k:Int)).has rg with
    | false =>
     have hst:=jO.out;rw[hmm,if_neg (by decide)] at hst;have eU:Hid _:=hst;clear hst jO hno hmm
     go_wp2
     go_roundw
     case rel=>exact⟨k+1,a,b,by omega,by go_num,rfl,rfl,eU.out,eC.out⟩
     case measure=>simp[intOf];omega
    | true =>
     have hst:=jO.out;rw[hmm,if_pos rfl] at hst;have eU:Hid _:=hst;clear hst jO hmm
     go_wp2_with fail
     refine hno.mono ?_;rintro _ w3 ⟨rfl,hb3,_⟩;have jb:Hid _:=cX hb3 (cA n);unfold cA AA at jb;clear hb3 hno
     by_cases ha:n.at_<a
     ·have qa:(n.at_:Int)<(a:Int):=by omega
      by_cases hb:b<n.aL
      ·have qb:(b:Int)<(n.aL:Int):=by omega
       have hst:=eU.out;rw[if_pos ha,if_pos hb] at hst;have zo:Hid _:=hst;clear hst eU ha hb
       go_wp2
       go_roundw
       case rel=>exact⟨k+1,n.at_,n.aL,by omega,by go_num,rfl,rfl,zo.out,jb.out⟩
       case measure=>simp[intOf];omega
      ·have qb:¬ (b:Int)<(n.aL:Int):=by omega
       have hst:=eU.out;rw[if_pos ha,if_neg hb] at hst;have zo:Hid _:=hst;clear hst eU ha hb
       go_wp2
       go_roundw
       case rel=>exact⟨k+1,n.at_,b,by omega,by go_num,rfl,rfl,zo.out,jb.out⟩
       case measure=>simp[intOf];omega
     ·have qa:¬ (n.at_:Int)<(a:Int):=by omega
      by_cases hb:b<n.aL
      ·have qb:(b:Int)<(n.aL:Int):=by omega
       have hst:=eU.out;rw[if_neg ha,if_pos hb] at hst;have zo:Hid _:=hst;clear hst eU ha hb
       go_wp2
       go_roundw
       case rel=>exact⟨k+1,a,n.aL,by omega,by go_num,rfl,rfl,zo.out,jb.out⟩
       case measure=>simp[intOf];omega
      ·have qb:¬ (b:Int)<(n.aL:Int):=by omega
       have hst:=eU.out;rw[if_neg ha,if_neg hb] at hst;have zo:Hid _:=hst;clear hst eU ha hb
       go_wp2
       go_roundw
       case rel=>exact⟨k+1,a,b,by omega,by go_num,rfl,rfl,zo.out,jb.out⟩
       case measure=>simp[intOf];omega
   ·have XD:Hid (R=(a,b)):=by
     have hd:ns.drop k=[]:=List.drop_eq_nil_of_le (by have:=HM.out;omega);have hst:=HF.out;rw[hd] at hst;rw[Tv.out,hst];exact rfl
    have ji:Hid _:=dI;clear dI HF
    go_wp2_with fail
    refine ja.mono ?_;rintro _ w1 ⟨rfl,hb1⟩;have dZ:Hid _:=hb1;clear hb1 ja
    go_wp2
    refine bodyPost_ret (v:=.tuple #[.int .i64 a,.int .i64 b]) (by simp[results,Tryz.results94,go_sem]) rfl ⟨by rw[XD.out],dZ.out⟩
theorem LS (fb:Nat) (w:World) (x1:Option Addr) (n1 c1:Nat) (x2:Option Addr) (n2 c2:Nat) (pv tv:Value) (tb:List TP) (K:List Nat) (ns:List NR) (op:List Int) (D:List Ty) (T:List Ty) (h:LQ fb w (.slice x1 n1 c1) (.slice x2 n2 c2) pv tv tb K ns op) (hR:Rel tb D K T) (hl:tb.length<=9000) (hK:K.length<=9000) (hn:ns.length<=9000) (rg:Nat) (n0:NR) (h0:ns[ns.length-1]?=some n0) :
  Calls Tryz.prog 75 #[ptr fb,.int .i64 rg] w λv w'=>v=.returned (.int .i64 (ew T rg (dA T rg ns 0 n0.aL n0.at_).1 (dA T rg ns 0 n0.aL n0.at_).2 ns 0))/\Below w.heap.size w w':=by
 obtain⟨m,hm⟩:∃ m,m=ns.length:=⟨_,rfl⟩
 have XY:∀ W',Below w.heap.size w W'->W'.cell? ⟨fb,0,none⟩=some (.slice x1 n1 c1)/\W'.cell? ⟨fb,1,none⟩=some (.slice x2 n2 c2)/\fb<W'.heap.size:=λW' hb=>by
  have:=(h.below hb).c.y;exact⟨by rw[aa this];rfl,by rw[aa this];rfl,af this⟩
 have LR:∀ W',Below w.heap.size w W'->∀ (k:Nat) (n:NR),ns[k]?=some n->Calls Tryz.prog 61 #[.agg #[.slice x1 n1 c1,.slice x2 n2 c2],.int .i64 k] W' λv w'=>v=.returned (aK n)/\Below w.heap.size w w':=λW' hb k n hk=>by
  refine (eT W' _ _ ns op (h.below hb).t k n hk hn).mono ?_;rintro _ w' ⟨rfl,hb'⟩;exact⟨rfl,hb.trans (hb'.mono hb.size)⟩
 have Un:∀ W',Below w.heap.size w W'->Calls Tryz.prog 60 #[.agg #[.slice x1 n1 c1,.slice x2 n2 c2]] W' λv w'=>v=.returned (.int .i64 m)/\Below w.heap.size w w':=λW' hb=>by
  have:=iC W' _ _ ns op (h.below hb).t;rw[<- hm] at this;refine this.mono ?_;rintro _ w' ⟨rfl,hb'⟩;exact⟨rfl,hb.trans (hb'.mono hb.size)⟩
 have Z8:∀ W',Below w.heap.size w W'->∀ i:Nat,i<m->Calls Tryz.prog 95 #[.pointer (some ⟨fb,0,none⟩),.int .i64 i,.int .i64 rg] W' λv w'=>v=.returned (.bool ((ai T i).has rg))/\Below w.heap.size w w':=λW' hb i hi=>by
  refine (r7 fb W' _ _ pv tv tb K ns op D T (h.below hb) hR hl hK i rg (by omega)).mono ?_;rintro _ w' ⟨rfl,hb'⟩;exact⟨rfl,hb.trans (hb'.mono hb.size)⟩
 have hSP:=O8 fb w x1 n1 c1 x2 n2 c2 pv tv tb K ns op D T h hR hl hK hn rg n0 h0;obtain⟨sa,sb,hsp⟩:∃ sa sb,dA T rg ns 0 n0.aL n0.at_=(sa,sb):=⟨_,_,rfl⟩;rw[hsp] at hSP ⊢;simp only at hSP ⊢;obtain⟨R,Wz⟩:∃ R,R=ew T rg sa sb ns 0:=⟨_,rfl⟩;rw[<- Wz];unfold aK at LR;unfold ptr at hSP;have C2:Hid _:=XY;have uN:Hid _:=LR;have MK:Hid _:=Un;have Q1:Hid _:=Z8;have HSP:Hid _:=hSP;have HM:Hid _:=hm;have Tv:Hid _:=Wz;rw[<- hm] at hn;clear XY LR Un Z8 h hR hm Wz h0 hSP hsp
 show Calls _ _ #[Value.pointer (some ⟨fb,0,none⟩),_] w _
 go_enter Tryz.func75,Tryz.ntmps75
 go_wp2_with fail
 refine Calls.mono HSP.out ?_;rintro _ w0 ⟨rfl,hb0⟩;have Gx:Hid _:=hb0;clear hb0 HSP
 go_wp2
 go_loopw [7,8] (λi _ wr=>∃ (k:Nat),k<=m/\i=.int .i64 k/\Hid (ew T rg sa sb ns 0=ew T rg sa sb (ns.drop k) k)/\Below w.heap.size w wr) (λi _ _=>m-(intOf i).toNat)
 case atStart=>exact⟨0,Nat.zero_le _,rfl,(rfl:ew T rg sa sb ns 0=ew T rg sa sb (ns.drop 0) 0),Gx.out⟩
 case round =>
  obtain⟨k,hk,rfl,HF,dI⟩:=hrel;obtain⟨b0,b1,bl⟩:=C2.out _ dI;have ja:=MK.out _ dI
  by_cases hlt:k<m
  ·have hkl:k<ns.length:=by have:=HM.out;omega
   obtain⟨n,hn'⟩:∃ n,ns[k]?=some n:=⟨ns[k],List.getElem?_eq_getElem hkl⟩
   have pq:ns.drop k=n::ns.drop (k+1):=by
    rw[List.drop_eq_getElem_cons hkl];rw[List.getElem?_eq_getElem hkl] at hn';simp only[Option.some.injEq] at hn';rw[hn']
   have hst:=HF.out;rw[pq] at hst;simp only[ew] at hst;have jO:Hid _:=hst;have HN:Hid _:=hn';clear hst pq hn' HF dI hkl
   go_wp2_with fail
   refine ja.mono ?_;rintro _ w1 ⟨rfl,hb1⟩;have hno:=uN.out w1 hb1 k n HN.out;clear ja b0 b1 bl;obtain⟨b0,b1,bl⟩:=C2.out _ hb1;clear hb1
   go_wp2_with fail
   refine hno.mono ?_;rintro _ w2 ⟨rfl,hb2⟩;have hb3:=cX hb2 (cA n);have hme:=Q1.out _ hb3 k hlt;have jb:Hid _:=hb3;unfold cA AA at hme jb;clear hno hb2 hb3 b0 b1 bl
   by_cases ha:n.at_<=sa
   ·have qa:(n.at_:Int)<=(sa:Int):=by omega
    by_cases hb:sb<=n.aL
    ·have qb:(sb:Int)<=(n.aL:Int):=by omega
     have hst:=jO.out
     cases hmm:(ai T (k:Int)).has rg with
     | false =>
      rw[hmm] at hme;rw[if_pos ⟨ha,hb,hmm⟩] at hst;have HA:Hid (R=(k:Int)):=(show R=(k:Int) by rw[Tv.out,hst]);clear hst jO hmm ha hb
      go_wp2_with fail
      refine hme.mono ?_;rintro _ w4 ⟨rfl,hb4⟩;have rI:Hid _:=hb4;clear hb4 hme
      go_wp2
      go_ret
      exact⟨by rw[HA.out];first | done | rfl,rI.out⟩
     | true =>
      rw[hmm] at hme;rw[if_neg (λh=>by rw[hmm] at h;exact absurd h.2.2 (by decide))] at hst;have eU:Hid _:=hst;clear hst jO hmm ha hb
      go_wp2_with fail
      refine hme.mono ?_;rintro _ w4 ⟨rfl,hb4⟩;have rI:Hid _:=hb4;clear hb4 hme
      go_wp2
      go_roundw
      case rel=>exact⟨k+1,by omega,by go_num,eU.out,rI.out⟩
      case measure=>simp[intOf];omega
    ·have qb:¬ (sb:Int)<=(n.aL:Int):=by omega
     have hst:=jO.out;rw[if_neg (λh=>hb h.2.1)] at hst;have eU:Hid _:=hst;clear hst jO ha hb hme
     go_wp2
     go_roundw
     case rel=>exact⟨k+1,by omega,by go_num,eU.out,jb.out⟩
     case measure=>simp[intOf];omega
   ·have qa:¬ (n.at_:Int)<=(sa:Int):=by omega
    have hst:=jO.out;rw[if_neg (λh=>ha h.1)] at hst;have eU:Hid _:=hst;clear hst jO ha hme
    go_wp2
    go_roundw
    case rel=>exact⟨k+1,by omega,by go_num,eU.out,jb.out⟩
    case measure=>simp[intOf];omega
  ·have XD:Hid (R=-1):=by
    have hd:ns.drop k=[]:=List.drop_eq_nil_of_le (by have:=HM.out;omega);have hst:=HF.out;rw[hd] at hst;rw[Tv.out,hst];exact rfl
   clear HF dI
   go_wp2_with fail
   refine ja.mono ?_;rintro _ w1 ⟨rfl,hb1⟩;have dZ:Hid _:=hb1;clear hb1 ja
   go_wp2
   go_ret
   exact⟨by rw[XD.out];first | done | rfl,dZ.out⟩
end Go.Proofs.YtpicaknklgccoabGreatDoor
