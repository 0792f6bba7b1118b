import Derived.Test.YtpicaknklgccoabGreatDoorS33
set_option maxHeartbeats 2000000
namespace Go.Proofs.YtpicaknklgccoabGreatDoor
theorem cd.step {m:MM} {n:Nat} {T:Ty} {v:MV} (h:cd m T v):cd { m with steps:=n } T v :=
 cd.on (m:=m) (m':={ m with steps:=n }) ⟨[],by simp⟩ (bR.of rfl) h
theorem gx.step {m:MM} {sc:Sc} {G:aQ} {base n:Nat} (h:gx m sc G base):gx { m with steps:=n } sc G base:=fun s U hl=>by
 obtain ⟨i,v,h1,h2,h3,h4⟩:=h s U hl
 exact ⟨i,v,h1,h2,h3,h4.step⟩
theorem IB (fuel:Nat) {G:aQ} {t:PT} {T:Ty} (h:mw G t T):∀ (sc:Sc) (base:Nat) (m:MM),gx m sc G base->base+t.cnt<=m.named.length->m.fault=0->0 < m.regs.length->AG m (mW fuel t sc base m) base t.cnt T:=by
 induction h with
 | num h =>
  intro sc base m he hl hf hr
  simp only [mW]
  exact iR hf ⟨Ext.refl _ _ _,bR.refl _,Or.inr ⟨hf,by simp only [cd];exact ⟨trivial,h.1,h.2⟩⟩⟩
 | name hlk =>
  intro sc base m he hl hf hr
  simp only [mW]
  refine iR hf ⟨Ext.refl _ _ _,bR.refl _,Or.inr ⟨hf,?_⟩⟩
  obtain ⟨i,v,h1,h2,h3,h4⟩:=he _ _ hlk
  have lN:=(List.getElem?_eq_some_iff.1 h3).1
  unfold MM.look
  simp only [h1]
  rw [if_neg (by omega),Int.toNat_natCast,List.getD_eq_getElem?_getD,h3]
  exact h4.step
 | @aT G p nm rg a b A B ha hb aM bH =>
  intro sc base m he hl hf hr
  simp only [PT.cnt,az,Nat.add_zero] at hl ⊢
  simp only [mW,sD,if_true,reduceCtorEq,if_false]
  refine iR hf ?_
  have h1:=aM sc base { m with steps:=m.steps+1 } he.step (by simp only;omega) hf hr
  generalize mW fuel a sc base { m with steps:=m.steps+1 }=x at h1 ⊢
  have Wj:=cH a
  have hxl:x.2.named.length=m.named.length:=h1.ext.len
  rw [show (((base+a.cnt:Nat):Int) - 1)=((base+a.cnt - 1:Nat):Int) from by omega]
  have hne:=dw x.2 (base+a.cnt - 1) x.1 base (1+(a.cnt+b.cnt)) (by omega)
  have hE1:=Ext.trans (b:=base) (c:=1+(a.cnt+b.cnt)) h1.ext hne (by omega) (by omega)
  have CM:=h1.same.trans (bR.of (kq x.2 (base+a.cnt - 1:Nat) x.1))
  have h2:AG (x.2.name ((base+a.cnt - 1:Nat):Int) x.1) (mW fuel b (sc++[(nm,((base+a.cnt - 1:Nat):Int))]) (base+a.cnt) (x.2.name ((base+a.cnt - 1:Nat):Int) x.1)) (base+a.cnt) b.cnt B:=by
   rcases h1.ok with h12 | ⟨h0,hv⟩
   ·exact AG.bad b _ _ (by rw [(gR _ _ _).1];exact h12) B
   ·have hx:=he.step.on h1.ext h1.same (Nat.le_refl _)
    have gY:=hx.snoc (nm:=nm) (j:=base+a.cnt - 1) (by omega) (by omega) hv
    rw [show base+a.cnt - 1+1=base+a.cnt from by omega] at gY
    exact bH _ _ _ gY (by rw [hne.len,hxl];omega) (by rw [(gR _ _ _).1];exact h0) (by rw [kq,h1.same.len];exact hr)
  exact ⟨Ext.trans (b:=base) (c:=1+(a.cnt+b.cnt)) hE1 h2.ext (by omega) (by omega),CM.trans h2.same,h2.ok⟩
 | @pair G p nm rg a b A B r hrg ha hb aM bH =>
  intro sc base m he hl hf hr
  simp only [PT.cnt,az,Nat.add_zero] at hl ⊢
  simp only [mW,fN,if_true,reduceCtorEq,if_false]
  refine iR hf ?_
  have CU:gx { m with steps:=m.steps+1 } sc G base:=he.step
  have h1:=aM sc base { m with steps:=m.steps+1 } CU (by simp only;omega) hf hr
  generalize mW fuel a sc base { m with steps:=m.steps+1 }=x at h1 ⊢
  have hxl:x.2.named.length=m.named.length:=h1.ext.len
  have h2:AG x.2 (mW fuel b sc (base+a.cnt) x.2) (base+a.cnt) b.cnt B:=by
   rcases h1.ok with h12 | ⟨h0,_⟩
   ·exact AG.bad b _ _ h12 B
   ·exact bH sc (base+a.cnt) x.2 ((CU.on h1.ext h1.same (Nat.le_refl _)).up (by omega)) (by omega) h0 (by rw [h1.same.len];exact hr)
  have YT:x.2.fault≠0->(mW fuel b sc (base+a.cnt) x.2).2.fault=x.2.fault:=AB fuel b sc (base+a.cnt) x.2
  generalize mW fuel b sc (base+a.cnt) x.2=y at h2 YT ⊢
  have hE:=Ext.trans (b:=base) (c:=1+(a.cnt+b.cnt)) h1.ext h2.ext (by omega) (by omega)
  have hS:=h1.same.trans h2.same
  have hce:=sN y.2 (aq rg) x.1 y.1 base (1+(a.cnt+b.cnt))
  have hcs:bR y.2 (y.2.aX (aq rg) x.1 y.1).2:=by
   unfold bR MM.aX
   cases hg:y.2.regs[y.2.home (aq rg)]? with
   | none=>rfl
   | some g =>
    simp only [List.map_set]
    have hlt:=(List.getElem?_eq_some_iff.1 hg).1
    have hge:=(List.getElem?_eq_some_iff.1 hg).2
    rw [show BJ { g with cells:=g.cells+1 }=(y.2.regs.map BJ)[y.2.home (aq rg)]'(by simpa using hlt) by simp [BJ,hge]]
    exact List.set_getElem_self _
  refine ⟨Ext.trans (b:=base) (c:=1+(a.cnt+b.cnt)) hE hce (by omega) (by omega),hS.trans hcs,?_⟩
  rw [fB]
  rcases h2.ok with h12 | ⟨h0,hv⟩
  ·exact Or.inl h12
  ·rcases h1.ok with g12 | ⟨g0,gv⟩
   ·rw [YT (by rw [g12];decide),g12] at h0;cases h0
   ·refine Or.inr ⟨h0,?_⟩
    rw [hrg]
    exact (Rh (by rw [hS.len];exact hr) (gv.on h2.ext.cells h2.same) hv).2
 | @fst G p nm rg a r A B ha aM =>
  intro sc base m he hl hf hr
  simp only [PT.cnt,az,Nat.add_zero] at hl ⊢
  simp only [mW,fN,if_true,reduceCtorEq,if_false]
  refine iR hf ?_
  have CU:gx { m with steps:=m.steps+1 } sc G base:=he.step
  have h1:=aM sc base { m with steps:=m.steps+1 } CU (by simp only;omega) hf hr
  generalize mW fuel a sc base { m with steps:=m.steps+1 }=x at h1 ⊢
  rcases h1.ok with h12 | ⟨h0,hv⟩
  ·rw [rL _ _ (by rw [h12];decide)]
   exact ⟨h1.ext.widen (by omega),h1.same,Or.inl h12⟩
  ·obtain ⟨u1,u2,_⟩:=Gq hv
   rw [u1]
   exact ⟨h1.ext.widen (by omega),h1.same,Or.inr ⟨h0,u2⟩⟩
 | @snd G p nm rg a r A B ha aM =>
  intro sc base m he hl hf hr
  simp only [PT.cnt,az,Nat.add_zero] at hl ⊢
  simp only [mW,fN,reduceCtorEq,if_false]
  refine iR hf ?_
  have CU:gx { m with steps:=m.steps+1 } sc G base:=he.step
  have h1:=aM sc base { m with steps:=m.steps+1 } CU (by simp only;omega) hf hr
  generalize mW fuel a sc base { m with steps:=m.steps+1 }=x at h1 ⊢
  rcases h1.ok with h12 | ⟨h0,hv⟩
  ·rw [rL _ _ (by rw [h12];decide)]
   exact ⟨h1.ext.widen (by omega),h1.same,Or.inl h12⟩
  ·obtain ⟨u1,_,u3⟩:=Gq hv
   rw [u1]
   exact ⟨h1.ext.widen (by omega),h1.same,Or.inr ⟨h0,u3⟩⟩
 | @dQ G p nm rg a b c T ha hb hc aM bH gL =>
  intro sc base m he hl hf hr
  simp only [PT.cnt,az,Nat.add_zero] at hl ⊢
  simp only [mW,Fz,if_true,reduceCtorEq,if_false]
  refine iR hf ?_
  have CU:gx { m with steps:=m.steps+1 } sc G base:=he.step
  have h1:=aM sc base { m with steps:=m.steps+1 } CU (by simp only;omega) hf hr
  generalize mW fuel a sc base { m with steps:=m.steps+1 }=x at h1 ⊢
  have hxl:x.2.named.length=m.named.length:=h1.ext.len
  have hx:=CU.on h1.ext h1.same (Nat.le_refl _)
  split
  ·have h2:AG x.2 (mW fuel b sc (base+a.cnt) x.2) (base+a.cnt) b.cnt T:=by
    rcases h1.ok with h12 | ⟨h0,_⟩
    ·exact AG.bad b _ _ h12 T
    ·exact bH sc (base+a.cnt) x.2 (hx.up (by omega)) (by omega) h0 (by rw [h1.same.len];exact hr)
   exact ⟨Ext.trans (b:=base) (c:=1+(a.cnt+(b.cnt+c.cnt))) h1.ext h2.ext (by omega) (by omega),h1.same.trans h2.same,h2.ok⟩
  ·have h2:AG x.2 (mW fuel c sc (base+a.cnt+b.cnt) x.2) (base+a.cnt+b.cnt) c.cnt T:=by
    rcases h1.ok with h12 | ⟨h0,_⟩
    ·exact AG.bad c _ _ h12 T
    ·exact gL sc (base+a.cnt+b.cnt) x.2 (hx.up (by omega)) (by omega) h0 (by rw [h1.same.len];exact hr)
   exact ⟨Ext.trans (b:=base) (c:=1+(a.cnt+(b.cnt+c.cnt))) h1.ext h2.ext (by omega) (by omega),h1.same.trans h2.same,h2.ok⟩
 | @two G p k nm rg a b hkk ha hb aM bH =>
  intro sc base m he hl hf hr
  simp only [PT.cnt,az,Nat.add_zero] at hl ⊢
  have e:mW fuel (.node p k nm rg [a,b]) sc base m=ba fuel m (fun m=>(⟨false,gQ k (mW fuel a sc base m).1.n (mW fuel b sc (base+a.cnt) (mW fuel a sc base m).2).1.n⟩,(mW fuel b sc (base+a.cnt) (mW fuel a sc base m).2).2)):=by
   rcases hkk with rfl | rfl | rfl <;> simp only [mW,fN,reduceCtorEq,if_false]
  rw [e]
  refine iR hf ?_
  have CU:gx { m with steps:=m.steps+1 } sc G base:=he.step
  have h1:=aM sc base { m with steps:=m.steps+1 } CU (by simp only;omega) hf hr
  generalize mW fuel a sc base { m with steps:=m.steps+1 }=x at h1 ⊢
  have hxl:x.2.named.length=m.named.length:=h1.ext.len
  have h2:AG x.2 (mW fuel b sc (base+a.cnt) x.2) (base+a.cnt) b.cnt .n:=by
   rcases h1.ok with h12 | ⟨h0,_⟩
   ·exact AG.bad b _ _ h12 .n
   ·exact bH sc (base+a.cnt) x.2 ((CU.on h1.ext h1.same (Nat.le_refl _)).up (by omega)) (by omega) h0 (by rw [h1.same.len];exact hr)
  have YT:x.2.fault≠0->(mW fuel b sc (base+a.cnt) x.2).2.fault=x.2.fault:=AB fuel b sc (base+a.cnt) x.2
  generalize mW fuel b sc (base+a.cnt) x.2=y at h2 YT ⊢
  refine ⟨Ext.trans (b:=base) (c:=1+(a.cnt+b.cnt)) h1.ext h2.ext (by omega) (by omega),h1.same.trans h2.same,?_⟩
  rcases h2.ok with h12 | ⟨h0,hv⟩
  ·exact Or.inl h12
  ·rcases h1.ok with g12 | ⟨g0,gv⟩
   ·rw [YT (by rw [g12];decide),g12] at h0;cases h0
   ·refine Or.inr ⟨h0,?_⟩
    simp only [cd] at gv hv ⊢
    refine ⟨trivial,?_⟩
    rcases hkk with rfl | rfl | rfl
    ·simp only [gQ,if_true]
     rw [Int.tmod_eq_emod_of_nonneg (by omega)];omega
    ·simp only [gQ,if_true,reduceCtorEq,if_false]
     rw [Int.tmod_eq_emod_of_nonneg (by omega)];omega
    ·simp only [gQ,reduceCtorEq,if_false]
     split <;> omega
 | @loop G p nm rg a b c T ha hb hc aM bH gL =>
  intro sc base m he hl hf hr
  simp only [PT.cnt,az,Nat.add_zero] at hl ⊢
  simp only [mW,kU,if_true,reduceCtorEq,if_false]
  refine iR hf ?_
  have CU:gx { m with steps:=m.steps+1 } sc G base:=he.step
  have h1:=aM sc base { m with steps:=m.steps+1 } CU (by simp only;omega) hf hr
  generalize mW fuel a sc base { m with steps:=m.steps+1 }=x at h1 ⊢
  have hxl:x.2.named.length=m.named.length:=h1.ext.len
  have hx:=CU.on h1.ext h1.same (Nat.le_refl _)
  have h2:AG x.2 (mW fuel b sc (base+a.cnt) x.2) (base+a.cnt) b.cnt T:=by
   rcases h1.ok with h12 | ⟨h0,_⟩
   ·exact AG.bad b _ _ h12 T
   ·exact bH sc (base+a.cnt) x.2 (hx.up (by omega)) (by omega) h0 (by rw [h1.same.len];exact hr)
  generalize mW fuel b sc (base+a.cnt) x.2=y at h2 ⊢
  have nP:y.2.named.length=m.named.length:=h2.ext.len.trans hxl
  have hy:=(hx.up (show base<=base+a.cnt by omega)).on h2.ext h2.same (Nat.le_refl _)
  have hy0:=hx.on h2.ext h2.same (show base<=base+a.cnt by omega)
  have yQ:=cH b
  have hS:=h1.same.trans h2.same
  have hE:=Ext.trans (b:=base) (c:=1+(a.cnt+(b.cnt+c.cnt))) h1.ext h2.ext (by omega) (by omega)
  rw [show (((base+a.cnt+b.cnt:Nat):Int) - 1)=((base+a.cnt+b.cnt - 1:Nat):Int) from by omega]
  rcases h2.ok with h12 | ⟨h0,hv⟩
  ·rw [AJ _ _ _ _ _ (by rw [h12];decide)]
   exact ⟨hE,hS,Or.inl h12⟩
  ·have h3:=Ea (T:=T) (j:=base+a.cnt+b.cnt - 1) (B:=base) (C:=1+(a.cnt+(b.cnt+c.cnt))) (g:=fun m=>mW fuel c (sc++[(nm,((base+a.cnt+b.cnt - 1:Nat):Int))]) (base+a.cnt+b.cnt) m) (P:=fun m'=>gx m' sc G base/\m'.named.length=m.named.length/\0 < m'.regs.length) (by omega) (fun m' v hP hf' hv'=>by
    have gY:=gx.snoc (nm:=nm) (j:=base+a.cnt+b.cnt - 1) (hP.1.up (show base<=base+a.cnt+b.cnt - 1 by omega)) (Nat.le_refl _) (by omega) hv'
    rw [show base+a.cnt+b.cnt - 1+1=base+a.cnt+b.cnt from by omega] at gY
    have hne:=dw m' (base+a.cnt+b.cnt - 1) v (base+a.cnt+b.cnt - 1) 1 (by omega)
    have hns:bR m' (m'.name ((base+a.cnt+b.cnt - 1:Nat):Int) v):=bR.of (kq m' _ v)
    have h4:=gL _ (base+a.cnt+b.cnt) _ gY (by rw [hne.len];omega) (by rw [(gR _ _ _).1];exact hf') (by rw [kq];exact hP.2.2)
    refine ⟨⟨h4.ext.widen (by omega),h4.same,h4.ok⟩,(hP.1.on hne hns (by omega)).on h4.ext h4.same (by omega),h4.ext.len.trans (hne.len.trans hP.2.1),?_⟩
    rw [h4.same.len,kq];exact hP.2.2) x.1.n.toNat y.2 y.1 ⟨hy0,nP,by rw [hS.len];exact hr⟩ h0 hv
   exact ⟨Ext.trans (b:=base) (c:=1+(a.cnt+(b.cnt+c.cnt))) hE h3.ext (by omega) (by omega),hS.trans h3.same,h3.ok⟩
 | @new G p nm rg a T ha hm aM =>
  intro sc base m he hl hf hr
  simp only [PT.cnt,az,Nat.add_zero] at hl ⊢
  simp only [mW,pV,if_true]
  have hoe:Ext m (m.opn (aq rg)) base (1+a.cnt):=Ext.same (m:=m) (m':=m.opn (aq rg)) rfl rfl _ _
  have heo:gx (m.opn (aq rg)) sc G base:=by
   intro s U hlk
   obtain ⟨i,v,h1,h2,h3,h4⟩:=he s U hlk
   exact ⟨i,v,h1,h2,h3,h4.opn _⟩
  have h1:=aM sc base (m.opn (aq rg)) heo (by simp only [MM.opn];omega) hf (by simp [MM.opn])
  generalize mW fuel a sc base (m.opn (aq rg))=x at h1 ⊢
  have hE:=Ext.trans (b:=base) (c:=1+a.cnt) hoe h1.ext (by omega) (by omega)
  refine ⟨Ext.trans (b:=base) (c:=1+a.cnt) hE (Bq _ base (1+a.cnt)) (by omega) (by omega),h1.same.new,?_⟩
  rw [(kF x.2).1]
  rcases h1.ok with h12 | ⟨h0,hv⟩
  ·exact Or.inl h12
  ·exact Or.inr ⟨h0,hv.fin hr h1.same hm⟩
open Go.Lib (decDigits)
structure Eb (regs news:List Int) (ns:List NR) (T2:List Ty):Prop where
 ty:∀ i n,ns[i]?=some n->ai T2 (i:Nat)=cR T2 (fL n (jJ regs i))
 pr:Pu regs ns
 one:∀ (i:Nat) n,ns[i]?=some n->n.form=7\/n.form=11->ai T2 n.p1=ai T2 n.p2
 nw:∀ r i:Nat,news[r]?=some (i:Int)->(ai T2 i).has r=false
def Ri (T2:List Ty) (G GR:aQ) (sc:Sc):Prop:=∀ s U,look G s=some U->∃ i:Nat,bN sc s=(i:Int)/\look GR s=some (ai T2 i)/\(ai T2 i).bare=U
theorem Ri.snoc {T2:List Ty} {G GR:aQ} {sc:Sc} {nm:List UInt8} {U:Ty} {i:Nat} (h:Ri T2 G GR sc) (hu:(ai T2 i).bare=U) (z:Int) (hz:z=(i:Int)):Ri T2 (G++[(nm,U)]) (GR++[(nm,ai T2 i)]) (sc++[(nm,z)]):=fun s V hs=>by
 subst hz
 rw [lj] at hs
 rw [lW,lj]
 by_cases e:nm=s
 ·rw [if_pos e] at hs
  rw [if_pos e,if_pos e]
  simp only [Option.some.injEq] at hs
  subst hs
  exact ⟨i,rfl,rfl,hu⟩
 ·rw [if_neg e] at hs
  rw [if_neg e,if_neg e]
  exact h s V hs
theorem yj (r:Nat):aq (35::decDigits r)=(r:Int):=by
 have:aq (35::decDigits r)=aq (decDigits r):=by unfold aq;rw [List.foldl_cons];rfl
 rw [this,jw]
theorem gH {GR:aQ} {t:PT} {V:Ty} (i:Int) (h:mw GR t V):∀ (l:List Int) (r:Nat),(∀ j,l[j]?=some i->V.has ((r+j:Nat):Int)=false)->mw GR (eF l r i t) V
 | [],_,_=>h
 | a::l,r,hh=>by
  have ih:=gH i h l (r+1) (fun j hj=>by rw [show r+1+j=r+(j+1) by omega];exact hh (j+1) (by simpa using hj))
  simp only [eF]
  split
  ·rename_i e
   refine .new ih ?_
   rw [yj]
   exact hh 0 (by simp [e])
  ·exact ih
theorem at_root {ns pre ks post:List NR} {n:NR} (h:ns=pre++((ks++[n])++post)):ns[pre.length+ks.length]?=some n:=by
 rw [h]
 exact Bd pre _ post ks.length n (by rw [List.getElem?_append_right (Nat.le_refl _),Nat.sub_self];rfl)
theorem Eb.Rj {regs news:List Int} {ns:List NR} {T2:List Ty} (H:Eb regs news ns T2) (i:Nat):∀ j,news[j]?=some (i:Int)->(ai T2 i).has ((0+j:Nat):Int)=false:=fun j hj=>by rw [Nat.zero_add];exact H.nw j i hj
theorem eV (b c:Nat):(((b+(1+c):Nat):Int) - 1)=((b+c:Nat):Int):=by omega
theorem IC (b:Nat) (t:PT):∃ i:Nat,(((b+t.cnt:Nat):Int) - 1)=(i:Int)/\i=b+t.cnt - 1:=⟨b+t.cnt - 1,by have:=cH t;omega,rfl⟩
theorem ID {regs news:List Int} {ns:List NR} {T2:List Ty} (H:Eb regs news ns T2) {G:aQ} {e:PT} {U:Ty} (h:WT G e U):cS e->e.bL->∀ (GR:aQ) (sc:Sc) (b:Nat) (pre ms post:List NR),NA sc e b ms->ns=pre++(ms++post)->pre.length=b->Ri T2 G GR sc ->
  mw GR (e.lay regs news b) (ai T2 (((b+e.cnt:Nat):Int) - 1))/\(ai T2 (((b+e.cnt:Nat):Int) - 1)).bare=U:=by
 induction h with
 | @num G p s =>
  intro _ ht GR sc b pre ms post bt hns hb hE
  simp only [NA] at bt
  subst bt
  simp only [PT.bL] at ht
  have hn:=at_root (ks:=[]) hns
  rw [hb] at hn
  have hty:=H.ty _ _ hn
  have hV:ai T2 (((b+(PT.num p s).cnt:Nat):Int) - 1)=.n:=by
   rw [show (((b+(PT.num p s).cnt:Nat):Int) - 1)=((b+([]:List NR).length:Nat):Int) from by simp only [PT.cnt,List.length_nil];omega,hty]
   simp [cR,fL]
  rw [hV]
  refine ⟨?_,rfl⟩
  have lD:=H.Rj b
  have hb2:(((b+(PT.num p s).cnt:Nat):Int) - 1)=(b:Int):=by simp only [PT.cnt];omega
  rw [hb2] at hV
  rw [hV] at lD
  unfold PT.lay
  rw [hb2]
  refine gH _ (.num ?_) news 0 lD
  rw [jw];omega
 | @name G p s T hs =>
  intro _ ht GR sc b pre ms post bt hns hb hE
  simp only [NA] at bt
  subst bt
  have hn:=at_root (ks:=[]) hns
  rw [hb] at hn
  have hty:=H.ty _ _ hn
  obtain ⟨i,h1,h2,h3⟩:=hE _ _ hs
  have hb2:(((b+(PT.name p s).cnt:Nat):Int) - 1)=(b:Int):=by simp only [PT.cnt];omega
  have hV:ai T2 (b:Int)=ai T2 (i:Int):=by
   rw [show (b:Int)=((b+([]:List NR).length:Nat):Int) by simp,hty]
   simp [cR,fL,h1]
  have lD:=H.Rj b
  rw [hb2,hV]
  rw [hV] at lD
  refine ⟨?_,h3⟩
  unfold PT.lay
  rw [hb2]
  exact gH _ (.name h2) news 0 lD
 | @aT G p nm rg a b UA UB ha hb aM bH =>
  intro hn ht GR sc bs pre ms post bt hns hbs hE
  cases hn with
  | node _ hn =>
  simp only [PT.bL,bI] at ht
  simp only [NA,cf,cY,Bool.false_eq_true,if_false,if_true] at bt
  obtain ⟨ks,aR,⟨a1,c1,eK,⟨a2,c2,mf,⟨_,rfl⟩,rfl⟩,rfl⟩,rfl⟩:=bt
  rw [List.append_nil] at hns
  have la:=NA.len eK
  have lb:=NA.len mf
  have hroot:=at_root hns
  rw [hbs,List.length_append,la,lb] at hroot
  have hty:=H.ty _ _ hroot
  obtain ⟨BK,uR⟩:=aM (hn _ (by simp)) ht.2.1 GR sc bs pre a1 (a2++([_]++post)) eK (by rw [hns];simp only [List.append_assoc];rfl) hbs hE
  obtain ⟨ia,hia,abS⟩:=IC bs a
  rw [hia] at BK uR
  obtain ⟨ET,rR⟩:=bH (hn _ (by simp)) ht.2.2.1 (GR++[(nm,ai T2 ia)]) _ (bs+a.cnt) (pre++a1) a2 ([_]++post) mf (by rw [hns];simp only [List.append_assoc];rfl) (by rw [List.length_append,hbs,la]) (hE.snoc uR _ (by omega))
  have hV:ai T2 ((bs+(a.cnt+b.cnt):Nat):Int)=ai T2 (((bs+a.cnt+b.cnt:Nat):Int) - 1):=by
   rw [hty]
   simp only [cR,fL,rD,aA,List.getD_cons_succ,List.getD_cons_zero]
   simp
  have lD:=H.Rj (bs+(a.cnt+b.cnt))
  simp only [PT.lay,PT.cnt,az,Nat.add_zero,eV,PT.eU]
  rw [hV] at lD ⊢
  exact ⟨gH _ (.aT BK ET) news 0 lD,rR⟩
 | @pair G p nm rg a b UA UB ha hb hsz aM bH =>
  intro hn ht GR sc bs pre ms post bt hns hbs hE
  cases hn with
  | node _ hn =>
  simp only [PT.bL,bI] at ht
  simp only [NA,cf,cY,Bool.false_eq_true,if_false] at bt
  obtain ⟨ks,aR,⟨a1,c1,eK,⟨a2,c2,mf,⟨_,rfl⟩,rfl⟩,rfl⟩,rfl⟩:=bt
  rw [List.append_nil] at hns
  have la:=NA.len eK
  have lb:=NA.len mf
  have hroot:=at_root hns
  rw [hbs,List.length_append,la,lb] at hroot
  have hty:=H.ty _ _ hroot
  have jj:=(H.pr _ _ hroot).1 rfl
  obtain ⟨BK,uR⟩:=aM (hn _ (by simp)) ht.2.1 GR sc bs pre a1 (a2++([_]++post)) eK (by rw [hns];simp only [List.append_assoc];rfl) hbs hE
  obtain ⟨ET,rR⟩:=bH (hn _ (by simp)) ht.2.2.1 GR sc (bs+a.cnt) (pre++a1) a2 ([_]++post) mf (by rw [hns];simp only [List.append_assoc];rfl) (by rw [List.length_append,hbs,la]) hE
  have hV:ai T2 ((bs+(a.cnt+b.cnt):Nat):Int)=.p (jJ regs (bs+(a.cnt+b.cnt))).toNat (ai T2 (((bs+a.cnt:Nat):Int) - 1)) (ai T2 (((bs+a.cnt+b.cnt:Nat):Int) - 1)):=by
   rw [hty]
   simp only [cR,fL,nj,aA,List.getD_cons_succ,List.getD_cons_zero]
   simp
  have lD:=H.Rj (bs+(a.cnt+b.cnt))
  simp only [PT.lay,PT.cnt,az,Nat.add_zero,eV,PT.eU]
  rw [hV] at lD ⊢
  refine ⟨gH _ (.pair ?_ BK ET) news 0 lD,by simp only [Ty.bare,uR,rR]⟩
  unfold SL
  rw [if_neg (by omega),yj]
 | @fst G p nm rg a UA UB ha aM =>
  intro hn ht GR sc bs pre ms post bt hns hbs hE
  cases hn with
  | node _ hn =>
  simp only [PT.bL,bI] at ht
  simp only [NA,cf,cY,Bool.false_eq_true,if_false] at bt
  obtain ⟨ks,aR,⟨a1,c1,eK,⟨_,rfl⟩,rfl⟩,rfl⟩:=bt
  rw [List.append_nil] at hns
  have la:=NA.len eK
  have hroot:=at_root hns
  rw [hbs,la] at hroot
  have hty:=H.ty _ _ hroot
  obtain ⟨BK,uR⟩:=aM (hn _ (by simp)) ht.2.1 GR sc bs pre a1 ([_]++post) eK (by rw [hns];simp only [List.append_assoc];rfl) hbs hE
  have hV:ai T2 ((bs+a.cnt:Nat):Int)=CH (ai T2 (((bs+a.cnt:Nat):Int) - 1)):=by
   rw [hty]
   simp only [cR,fL,rE,aA,List.getD_cons_succ,List.getD_cons_zero]
   simp
  obtain ⟨r,u,v,hp,hu,hv⟩:=kD uR
  rw [hp] at BK hV
  have lD:=H.Rj (bs+a.cnt)
  simp only [PT.lay,PT.cnt,az,Nat.add_zero,eV,PT.eU]
  rw [hV] at lD ⊢
  exact ⟨gH _ (.fst BK) news 0 lD,hu⟩
 | @snd G p nm rg a UA UB ha aM =>
  intro hn ht GR sc bs pre ms post bt hns hbs hE
  cases hn with
  | node _ hn =>
  simp only [PT.bL,bI] at ht
  simp only [NA,cf,cY,Bool.false_eq_true,if_false] at bt
  obtain ⟨ks,aR,⟨a1,c1,eK,⟨_,rfl⟩,rfl⟩,rfl⟩:=bt
  rw [List.append_nil] at hns
  have la:=NA.len eK
  have hroot:=at_root hns
  rw [hbs,la] at hroot
  have hty:=H.ty _ _ hroot
  obtain ⟨BK,uR⟩:=aM (hn _ (by simp)) ht.2.1 GR sc bs pre a1 ([_]++post) eK (by rw [hns];simp only [List.append_assoc];rfl) hbs hE
  have hV:ai T2 ((bs+a.cnt:Nat):Int)=CI (ai T2 (((bs+a.cnt:Nat):Int) - 1)):=by
   rw [hty]
   simp only [cR,fL,rF,aA,List.getD_cons_succ,List.getD_cons_zero]
   simp
  obtain ⟨r,u,v,hp,hu,hv⟩:=kD uR
  rw [hp] at BK hV
  have lD:=H.Rj (bs+a.cnt)
  simp only [PT.lay,PT.cnt,az,Nat.add_zero,eV,PT.eU]
  rw [hV] at lD ⊢
  exact ⟨gH _ (.snd BK) news 0 lD,hv⟩
 | @dQ G p nm rg a b c U ha hb hc aM bH gL =>
  intro hn ht GR sc bs pre ms post bt hns hbs hE
  cases hn with
  | node _ hn =>
  simp only [PT.bL,bI] at ht
  simp only [NA,cf,cY,Bool.false_eq_true,if_false] at bt
  obtain ⟨ks,aR,⟨a1,c1,eK,⟨a2,c2,mf,⟨a3,c3,Gt,⟨_,rfl⟩,rfl⟩,rfl⟩,rfl⟩,rfl⟩:=bt
  rw [List.append_nil] at hns
  have la:=NA.len eK
  have lb:=NA.len mf
  have lc:=NA.len Gt
  have hroot:=at_root hns
  rw [hbs,List.length_append,List.length_append,la,lb,lc] at hroot
  have hty:=H.ty _ _ hroot
  have hone:=H.one _ _ hroot (Or.inl rfl)
  simp only [aA,List.getD_cons_succ,List.getD_cons_zero] at hone
  obtain ⟨BK,uR⟩:=aM (hn _ (by simp)) ht.2.1 GR sc bs pre a1 (a2++(a3++([_]++post))) eK (by rw [hns];simp only [List.append_assoc];rfl) hbs hE
  obtain ⟨ET,rR⟩:=bH (hn _ (by simp)) ht.2.2.1 GR sc (bs+a.cnt) (pre++a1) a2 (a3++([_]++post)) mf (by rw [hns];simp only [List.append_assoc];rfl) (by rw [List.length_append,hbs,la]) hE
  obtain ⟨hwc,hbc⟩:=gL (hn _ (by simp)) ht.2.2.2.1 GR sc (bs+a.cnt+b.cnt) (pre++a1++a2) a3 ([_]++post) Gt (by rw [hns];simp only [List.append_assoc];rfl) (by rw [List.length_append,List.length_append,hbs,la,lb]) hE
  have hV:ai T2 ((bs+(a.cnt+(b.cnt+c.cnt)):Nat):Int)=ai T2 (((bs+a.cnt+b.cnt:Nat):Int) - 1):=by
   rw [hty]
   simp only [cR,fL,uN,aA,List.getD_cons_succ,List.getD_cons_zero]
   simp
  rw [jO uR] at BK
  rw [<- hone] at hwc
  have lD:=H.Rj (bs+(a.cnt+(b.cnt+c.cnt)))
  simp only [PT.lay,PT.cnt,az,Nat.add_zero,eV,PT.eU]
  rw [hV] at lD ⊢
  exact ⟨gH _ (.dQ BK ET hwc) news 0 lD,rR⟩
 | @two G p k nm rg a b hkk ha hb aM bH =>
  intro hn ht GR sc bs pre ms post bt hns hbs hE
  have hkb:cf k=[false,false]:=by rcases hkk with rfl | rfl | rfl <;> rfl
  have Fj:aY k=8\/aY k=9\/aY k=10:=by rcases hkk with rfl | rfl | rfl <;> decide
  cases hn with
  | node _ hn =>
  simp only [PT.bL,bI] at ht
  simp only [NA,hkb,cY,Bool.false_eq_true,if_false] at bt
  obtain ⟨ks,aR,⟨a1,c1,eK,⟨a2,c2,mf,⟨_,rfl⟩,rfl⟩,rfl⟩,rfl⟩:=bt
  rw [List.append_nil] at hns
  have la:=NA.len eK
  have lb:=NA.len mf
  have hroot:=at_root hns
  rw [hbs,List.length_append,la,lb] at hroot
  have hty:=H.ty _ _ hroot
  obtain ⟨BK,uR⟩:=aM (hn _ (by simp)) ht.2.1 GR sc bs pre a1 (a2++([_]++post)) eK (by rw [hns];simp only [List.append_assoc];rfl) hbs hE
  obtain ⟨ET,rR⟩:=bH (hn _ (by simp)) ht.2.2.1 GR sc (bs+a.cnt) (pre++a1) a2 ([_]++post) mf (by rw [hns];simp only [List.append_assoc];rfl) (by rw [List.length_append,hbs,la]) hE
  have hV:ai T2 ((bs+(a.cnt+b.cnt):Nat):Int)=.n:=by
   rw [hty]
   simp only [cR,fL]
   rcases Fj with h | h | h <;> simp [h]
  rw [jO uR] at BK
  rw [jO rR] at ET
  have lD:=H.Rj (bs+(a.cnt+b.cnt))
  simp only [PT.lay,PT.cnt,az,Nat.add_zero,eV,PT.eU]
  rw [hV] at lD ⊢
  exact ⟨gH _ (.two hkk BK ET) news 0 lD,rfl⟩
 | @loop G p nm rg a b c U ha hb hc aM bH gL =>
  intro hn ht GR sc bs pre ms post bt hns hbs hE
  cases hn with
  | node _ hn =>
  simp only [PT.bL,bI] at ht
  simp only [NA,cf,cY,Bool.false_eq_true,if_false,if_true] at bt
  obtain ⟨ks,aR,⟨a1,c1,eK,⟨a2,c2,mf,⟨a3,c3,Gt,⟨_,rfl⟩,rfl⟩,rfl⟩,rfl⟩,rfl⟩:=bt
  rw [List.append_nil] at hns
  have la:=NA.len eK
  have lb:=NA.len mf
  have lc:=NA.len Gt
  have hroot:=at_root hns
  rw [hbs,List.length_append,List.length_append,la,lb,lc] at hroot
  have hty:=H.ty _ _ hroot
  have hone:=H.one _ _ hroot (Or.inr rfl)
  simp only [aA,List.getD_cons_succ,List.getD_cons_zero] at hone
  obtain ⟨BK,uR⟩:=aM (hn _ (by simp)) ht.2.1 GR sc bs pre a1 (a2++(a3++([_]++post))) eK (by rw [hns];simp only [List.append_assoc];rfl) hbs hE
  obtain ⟨ET,rR⟩:=bH (hn _ (by simp)) ht.2.2.1 GR sc (bs+a.cnt) (pre++a1) a2 (a3++([_]++post)) mf (by rw [hns];simp only [List.append_assoc];rfl) (by rw [List.length_append,hbs,la]) hE
  obtain ⟨ib,hib,abT⟩:=IC (bs+a.cnt) b
  rw [hib] at ET rR hone
  obtain ⟨hwc,hbc⟩:=gL (hn _ (by simp)) ht.2.2.2.1 (GR++[(nm,ai T2 ib)]) _ (bs+a.cnt+b.cnt) (pre++a1++a2) a3 ([_]++post) Gt (by rw [hns];simp only [List.append_assoc];rfl) (by rw [List.length_append,List.length_append,hbs,la,lb]) (hE.snoc rR _ (by omega))
  have hV:ai T2 ((bs+(a.cnt+(b.cnt+c.cnt)):Nat):Int)=ai T2 (ib:Int):=by
   rw [hty,<- hib]
   simp only [cR,fL,lR,aA,List.getD_cons_succ,List.getD_cons_zero]
   simp
  rw [jO uR] at BK
  rw [<- hone] at hwc
  have lD:=H.Rj (bs+(a.cnt+(b.cnt+c.cnt)))
  simp only [PT.lay,PT.cnt,az,Nat.add_zero,eV,PT.eU]
  rw [hV] at lD ⊢
  exact ⟨gH _ (.loop BK ET hwc) news 0 lD,rR⟩
 | new _ _ =>
  intro hn
  cases hn with
  | node hk _=>exact absurd rfl hk
theorem cM {T X:List Ty} {p:Int} (h:p < T.length):ai (T++X) p=ai T p:=by
 unfold ai
 split
 ·rw [List.getElem?_append_left (by omega)]
 ·rfl
theorem s7:∀ (ns:List NR) (T:List Ty),∃ X,bC T ns=T++X/\X.length=ns.length
 | [],T=>⟨[],by simp [bC],rfl⟩
 | n::r,T=>by
  obtain ⟨X,h1,h2⟩:=s7 r (T++[cR T n])
  exact ⟨cR T n::X,by simp only [bC,h1,List.append_assoc,List.singleton_append],by simp [h2]⟩
def lX (k:Nat) (n:NR):Prop:=n.p0 < k/\n.p1 < k/\n.p2 < k/\n.source < k
theorem Rk {T X:List Ty} {n:NR} (h:lX T.length n):cR (T++X) n=cR T n:=by
 unfold cR
 rw [cM h.1,cM h.2.1,cM h.2.2.2]
theorem BL:∀ (ns:List NR) (T:List Ty),(∀ (i:Nat) n,ns[i]?=some n->lX (T.length+i) n)->∀ (i:Nat) n,ns[i]?=some n->ai (bC T ns) ((T.length+i:Nat):Int)=cR (bC T ns) n
 | [],_,_,i,n,h=>by simp at h
 | m::r,T,hb,i,n,h=>by
  simp only [bC]
  cases i with
  | zero =>
   simp only [List.getElem?_cons_zero,Option.some.injEq] at h
   subst h
   obtain ⟨X,h1,_⟩:=s7 r (T++[cR T m])
   have IE:lX T.length m:=by simpa using hb 0 m (by simp)
   rw [h1,List.append_assoc,Rk IE]
   unfold ai
   rw [if_pos (by omega),Int.toNat_natCast,Nat.add_zero,List.getElem?_append_right (Nat.le_refl _),Nat.sub_self];rfl
  | succ j =>
   have:=BL r (T++[cR T m]) (fun k x hx=>by have:=hb (k+1) x (by simpa using hx);rw [List.length_append,List.length_singleton];rwa [show T.length+1+k=T.length+(k+1) by omega]) j n (by simpa using h)
   rw [List.length_append,List.length_singleton,show T.length+1+j=T.length+(j+1) by omega] at this
   exact this
theorem AK:∀ (ns:List NR) (T:List Ty),(∀ (i:Nat) n,ns[i]?=some n->lX (T.length+i) n)->(∀ (i:Nat) n,ns[i]?=some n->n.form=7\/n.form=11->(ai (bC T ns) n.p1).bare=(ai (bC T ns) n.p2).bare)->tF T ns
 | [],_,_,_=>trivial
 | m::r,T,hb,ha=>by
  obtain ⟨X,h1,_⟩:=s7 r (T++[cR T m])
  have IE:lX T.length m:=by simpa using hb 0 m (by simp)
  simp only [tF]
  refine ⟨fun hf=>?_,AK r _ (fun k x hx=>?_) (fun k x hx=>?_)⟩
  ·have:=ha 0 m (by simp) hf
   simp only [bC] at this
   rw [h1,List.append_assoc,cM IE.2.1,cM IE.2.2.1] at this
   rw [cM IE.2.1,cM IE.2.2.1];exact this
  ·have:=hb (k+1) x (by simpa using hx)
   rw [List.length_append,List.length_singleton,show T.length+1+k=T.length+(k+1) by omega];exact this
  ·have:=ha (k+1) x (by simpa using hx)
   simp only [bC] at this;exact this
theorem IG (c:Nat->Nat):∀ (ns:List NR) (T:List Ty),(∀ (i:Nat) n,ns[i]?=some n->lX (T.length+i) n)->LM c T ns->∀ (i:Nat) n,ns[i]?=some n->n.form=7\/n.form=11->iE c (ai (bC T ns) n.p1)=iE c (ai (bC T ns) n.p2)
 | [],_,_,_,i,n,h=>by simp at h
 | m::r,T,hb,ho,i,n,h=>by
  obtain ⟨X,h1,_⟩:=s7 r (T++[cR T m])
  have IE:lX T.length m:=by simpa using hb 0 m (by simp)
  simp only [LM] at ho
  simp only [bC]
  cases i with
  | zero =>
   simp only [List.getElem?_cons_zero,Option.some.injEq] at h
   subst h
   intro hf
   have:=ho.1 hf
   rw [cM IE.2.1,cM IE.2.2.1] at this
   rw [h1,List.append_assoc,cM IE.2.1,cM IE.2.2.1];exact this
  | succ j =>
   exact IG c r _ (fun k x hx=>by have:=hb (k+1) x (by simpa using hx);rw [List.length_append,List.length_singleton,show T.length+1+k=T.length+(k+1) by omega];exact this) ho.2 j n (by simpa using h)
theorem Gu:∀ (ns:List NR) (T:List Ty),(∀ (i:Nat) n,ns[i]?=some n->lX (T.length+i) n)->(∀ (i:Nat) n,ns[i]?=some n->n.form=4->(Ty.p 0 (ai (bC T ns) n.p0) (ai (bC T ns) n.p1)).size<=63)->jm T ns
 | [],_,_,_=>trivial
 | m::r,T,hb,ha=>by
  obtain ⟨X,h1,_⟩:=s7 r (T++[cR T m])
  have IE:lX T.length m:=by simpa using hb 0 m (by simp)
  simp only [jm]
  refine ⟨fun hf=>?_,Gu r _ (fun k x hx=>?_) (fun k x hx=>?_)⟩
  ·have:=ha 0 m (by simp) hf
   simp only [bC] at this
   rw [h1,List.append_assoc,cM IE.1,cM IE.2.1] at this
   exact this
  ·have:=hb (k+1) x (by simpa using hx)
   rw [List.length_append,List.length_singleton,show T.length+1+k=T.length+(k+1) by omega];exact this
  ·have:=ha (k+1) x (by simpa using hx)
   simp only [bC] at this;exact this
def Rl (T:List Ty) (G:aQ) (sc:Sc):Prop:=∀ s U,look G s=some U->∃ i:Nat,bN sc s=(i:Int)/\(ai T i).bare=U
theorem Rl.snoc {T:List Ty} {G:aQ} {sc:Sc} {nm:List UInt8} {U:Ty} {z:Int} (h:Rl T G sc) (hz:0<=z) (hu:(ai T z).bare=U):Rl T (G++[(nm,U)]) (sc++[(nm,z)]):=fun s V hs=>by
 rw [lj] at hs
 rw [lW]
 by_cases e:nm=s
 ·rw [if_pos e] at hs ⊢
  simp only [Option.some.injEq] at hs
  subst hs
  exact ⟨z.toNat,by omega,by rw [Int.toNat_of_nonneg hz];exact hu⟩
 ·rw [if_neg e] at hs ⊢
  exact h s V hs
def pW (T:List Ty) (ns:List NR) (lo hi:Nat):Prop:=∀ (i:Nat) n,lo<=i->i < hi->ns[i]?=some n->(n.form=7\/n.form=11->(ai T n.p1).bare=(ai T n.p2).bare)/\(n.form=4->(Ty.p 0 (ai T n.p0) (ai T n.p1)).size<=63)
theorem pW.join {T:List Ty} {ns:List NR} {a b c:Nat} (h:pW T ns a b) (g:pW T ns b c):pW T ns a c:=fun i n h1 h2 hn=>by
 by_cases e:i < b
 ·exact h i n h1 e hn
 ·exact g i n (by omega) h2 hn
theorem pW.root {T:List Ty} {ns:List NR} {k:Nat} {n:NR} (hn:ns[k]?=some n) (h1:n.form=7\/n.form=11->(ai T n.p1).bare=(ai T n.p2).bare) (h2:n.form=4->(Ty.p 0 (ai T n.p0) (ai T n.p1)).size<=63):pW T ns k (k+1):=fun i m a b hm=>by
 have:i=k:=by omega
 subst this
 rw [hn] at hm
 simp only [Option.some.injEq] at hm
 subst hm
 exact ⟨h1,h2⟩
theorem N8 (b:Nat) (t:PT):(0:Int)<=((b+t.cnt:Nat):Int) - 1:=by have:=cH t;omega
theorem Ec {ns:List NR} {T:List Ty} {ρ:Nat->Int} (H:∀ i n,ns[i]?=some n->ai T (i:Nat)=cR T (fL n (ρ i))) {G:aQ} {e:PT} {U:Ty} (h:WT G e U):cS e->∀ (sc:Sc) (b:Nat) (pre ms post:List NR),NA sc e b ms->ns=pre++(ms++post)->pre.length=b->Rl T G sc ->
  (ai T (((b+e.cnt:Nat):Int) - 1)).bare=U/\pW T ns b (b+e.cnt):=by
 induction h with
 | @num G p s =>
  intro _ sc b pre ms post bt hns hb hE
  simp only [NA] at bt
  subst bt
  have hn:=at_root (ks:=[]) hns
  rw [hb] at hn
  have hty:=H _ _ hn
  simp only [List.length_nil,Nat.add_zero] at hn hty
  simp only [PT.cnt,show (((b+1:Nat):Int) - 1)=(b:Int) by omega]
  rw [hty]
  exact ⟨by simp [cR,fL,Ty.bare],pW.root hn (by simp) (by simp)⟩
 | @name G p s U hs =>
  intro _ sc b pre ms post bt hns hb hE
  simp only [NA] at bt
  subst bt
  have hn:=at_root (ks:=[]) hns
  rw [hb] at hn
  have hty:=H _ _ hn
  simp only [List.length_nil,Nat.add_zero] at hn hty
  obtain ⟨i,h1,h2⟩:=hE _ _ hs
  simp only [PT.cnt,show (((b+1:Nat):Int) - 1)=(b:Int) by omega]
  rw [hty]
  exact ⟨by simp [cR,fL,h1,h2],pW.root hn (by simp) (by simp)⟩
 | @aT G p nm rg a b UA UB ha hb aM bH =>
  intro hn sc bs pre ms post bt hns hbs hE
  cases hn with
  | node _ hn =>
  simp only [NA,cf,cY,Bool.false_eq_true,if_false,if_true] at bt
  obtain ⟨ks,aR,⟨a1,c1,eK,⟨a2,c2,mf,⟨_,rfl⟩,rfl⟩,rfl⟩,rfl⟩:=bt
  rw [List.append_nil] at hns
  have la:=NA.len eK
  have lb:=NA.len mf
  have hroot:=at_root hns
  rw [hbs,List.length_append,la,lb] at hroot
  have hty:=H _ _ hroot
  obtain ⟨uR,oa⟩:=aM (hn _ (by simp)) sc bs pre a1 (a2++([_]++post)) eK (by rw [hns];simp only [List.append_assoc];rfl) hbs hE
  obtain ⟨rR,ob⟩:=bH (hn _ (by simp)) _ (bs+a.cnt) (pre++a1) a2 ([_]++post) mf (by rw [hns];simp only [List.append_assoc];rfl) (by rw [List.length_append,hbs,la]) (hE.snoc (N8 bs a) uR)
  simp only [PT.cnt,az,Nat.add_zero,eV]
  refine ⟨?_,?_⟩
  ·rw [hty]
   simp only [cR,fL,rD,aA,List.getD_cons_succ,List.getD_cons_zero]
   simpa using rR
  ·have:=(oa.join ob).join (pW.root (by rw [Nat.add_assoc];exact hroot) (by simp [rD]) (by simp [rD]))
   rwa [show bs+a.cnt+b.cnt+1=bs+(1+(a.cnt+b.cnt)) by omega] at this
 | @pair G p nm rg a b UA UB ha hb hsz aM bH =>
  intro hn sc bs pre ms post bt hns hbs hE
  cases hn with
  | node _ hn =>
  simp only [NA,cf,cY,Bool.false_eq_true,if_false] at bt
  obtain ⟨ks,aR,⟨a1,c1,eK,⟨a2,c2,mf,⟨_,rfl⟩,rfl⟩,rfl⟩,rfl⟩:=bt
  rw [List.append_nil] at hns
  have la:=NA.len eK
  have lb:=NA.len mf
  have hroot:=at_root hns
  rw [hbs,List.length_append,la,lb] at hroot
  have hty:=H _ _ hroot
  obtain ⟨uR,oa⟩:=aM (hn _ (by simp)) sc bs pre a1 (a2++([_]++post)) eK (by rw [hns];simp only [List.append_assoc];rfl) hbs hE
  obtain ⟨rR,ob⟩:=bH (hn _ (by simp)) sc (bs+a.cnt) (pre++a1) a2 ([_]++post) mf (by rw [hns];simp only [List.append_assoc];rfl) (by rw [List.length_append,hbs,la]) hE
  simp only [PT.cnt,az,Nat.add_zero,eV]
  refine ⟨?_,?_⟩
  ·rw [hty]
   simp only [cR,fL,nj,aA,List.getD_cons_succ,List.getD_cons_zero]
   simp only [Nat.reduceEqDiff,if_false,if_true,Ty.bare,uR,rR]
  ·have hs2:(Ty.p 0 (ai T (((bs+a.cnt:Nat):Int) - 1)) (ai T (((bs+a.cnt+b.cnt:Nat):Int) - 1))).size<=63:=by
    rw [<- eM]
    simp only [Ty.bare,uR,rR]
    exact hsz
   have:=(oa.join ob).join (pW.root (by rw [Nat.add_assoc];exact hroot) (by simp [nj]) (fun _=>by simpa only [aA,List.getD_cons_succ,List.getD_cons_zero] using hs2))
   rwa [show bs+a.cnt+b.cnt+1=bs+(1+(a.cnt+b.cnt)) by omega] at this
 | @fst G p nm rg a UA UB ha aM =>
  intro hn sc bs pre ms post bt hns hbs hE
  cases hn with
  | node _ hn =>
  simp only [NA,cf,cY,Bool.false_eq_true,if_false] at bt
  obtain ⟨ks,aR,⟨a1,c1,eK,⟨_,rfl⟩,rfl⟩,rfl⟩:=bt
  rw [List.append_nil] at hns
  have la:=NA.len eK
  have hroot:=at_root hns
  rw [hbs,la] at hroot
  have hty:=H _ _ hroot
  obtain ⟨uR,oa⟩:=aM (hn _ (by simp)) sc bs pre a1 ([_]++post) eK (by rw [hns];simp only [List.append_assoc];rfl) hbs hE
  simp only [PT.cnt,az,Nat.add_zero,eV]
  obtain ⟨r,u,v,hp,hu,hv⟩:=kD uR
  refine ⟨?_,?_⟩
  ·rw [hty]
   simp only [cR,fL,rE,aA,List.getD_cons_succ,List.getD_cons_zero]
   simp only [Nat.reduceEqDiff,if_false,if_true]
   rw [hp];exact hu
  ·have:=oa.join (pW.root hroot (by simp [rE]) (by simp [rE]))
   rwa [show bs+a.cnt+1=bs+(1+a.cnt) by omega] at this
 | @snd G p nm rg a UA UB ha aM =>
  intro hn sc bs pre ms post bt hns hbs hE
  cases hn with
  | node _ hn =>
  simp only [NA,cf,cY,Bool.false_eq_true,if_false] at bt
  obtain ⟨ks,aR,⟨a1,c1,eK,⟨_,rfl⟩,rfl⟩,rfl⟩:=bt
  rw [List.append_nil] at hns
  have la:=NA.len eK
  have hroot:=at_root hns
  rw [hbs,la] at hroot
  have hty:=H _ _ hroot
  obtain ⟨uR,oa⟩:=aM (hn _ (by simp)) sc bs pre a1 ([_]++post) eK (by rw [hns];simp only [List.append_assoc];rfl) hbs hE
  simp only [PT.cnt,az,Nat.add_zero,eV]
  obtain ⟨r,u,v,hp,hu,hv⟩:=kD uR
  refine ⟨?_,?_⟩
  ·rw [hty]
   simp only [cR,fL,rF,aA,List.getD_cons_succ,List.getD_cons_zero]
   simp only [Nat.reduceEqDiff,if_false,if_true]
   rw [hp];exact hv
  ·have:=oa.join (pW.root hroot (by simp [rF]) (by simp [rF]))
   rwa [show bs+a.cnt+1=bs+(1+a.cnt) by omega] at this
 | @dQ G p nm rg a b c U ha hb hc aM bH gL =>
  intro hn sc bs pre ms post bt hns hbs hE
  cases hn with
  | node _ hn =>
  simp only [NA,cf,cY,Bool.false_eq_true,if_false] at bt
  obtain ⟨ks,aR,⟨a1,c1,eK,⟨a2,c2,mf,⟨a3,c3,Gt,⟨_,rfl⟩,rfl⟩,rfl⟩,rfl⟩,rfl⟩:=bt
  rw [List.append_nil] at hns
  have la:=NA.len eK
  have lb:=NA.len mf
  have lc:=NA.len Gt
  have hroot:=at_root hns
  rw [hbs,List.length_append,List.length_append,la,lb,lc] at hroot
  have hty:=H _ _ hroot
  obtain ⟨uR,oa⟩:=aM (hn _ (by simp)) sc bs pre a1 (a2++(a3++([_]++post))) eK (by rw [hns];simp only [List.append_assoc];rfl) hbs hE
  obtain ⟨rR,ob⟩:=bH (hn _ (by simp)) sc (bs+a.cnt) (pre++a1) a2 (a3++([_]++post)) mf (by rw [hns];simp only [List.append_assoc];rfl) (by rw [List.length_append,hbs,la]) hE
  obtain ⟨hbc,oc⟩:=gL (hn _ (by simp)) sc (bs+a.cnt+b.cnt) (pre++a1++a2) a3 ([_]++post) Gt (by rw [hns];simp only [List.append_assoc];rfl) (by rw [List.length_append,List.length_append,hbs,la,lb]) hE
  simp only [PT.cnt,az,Nat.add_zero,eV]
  refine ⟨?_,?_⟩
  ·rw [hty]
   simp only [cR,fL,uN,aA,List.getD_cons_succ,List.getD_cons_zero]
   simpa using rR
  ·have:=((oa.join ob).join oc).join (pW.root (by rw [Nat.add_assoc,Nat.add_assoc];exact hroot) (fun _=>by simp only [aA,List.getD_cons_succ,List.getD_cons_zero];rw [rR,hbc]) (by simp [uN]))
   rwa [show bs+a.cnt+b.cnt+c.cnt+1=bs+(1+(a.cnt+(b.cnt+c.cnt))) by omega] at this
 | @two G p k nm rg a b hkk ha hb aM bH =>
  intro hn sc bs pre ms post bt hns hbs hE
  have hkb:cf k=[false,false]:=by rcases hkk with rfl | rfl | rfl <;> rfl
  have Fj:aY k=8\/aY k=9\/aY k=10:=by rcases hkk with rfl | rfl | rfl <;> decide
  cases hn with
  | node _ hn =>
  simp only [NA,hkb,cY,Bool.false_eq_true,if_false] at bt
  obtain ⟨ks,aR,⟨a1,c1,eK,⟨a2,c2,mf,⟨_,rfl⟩,rfl⟩,rfl⟩,rfl⟩:=bt
  rw [List.append_nil] at hns
  have la:=NA.len eK
  have lb:=NA.len mf
  have hroot:=at_root hns
  rw [hbs,List.length_append,la,lb] at hroot
  have hty:=H _ _ hroot
  obtain ⟨uR,oa⟩:=aM (hn _ (by simp)) sc bs pre a1 (a2++([_]++post)) eK (by rw [hns];simp only [List.append_assoc];rfl) hbs hE
  obtain ⟨rR,ob⟩:=bH (hn _ (by simp)) sc (bs+a.cnt) (pre++a1) a2 ([_]++post) mf (by rw [hns];simp only [List.append_assoc];rfl) (by rw [List.length_append,hbs,la]) hE
  simp only [PT.cnt,az,Nat.add_zero,eV]
  refine ⟨?_,?_⟩
  ·rw [hty]
   simp only [cR,fL]
   rcases Fj with h | h | h <;> simp [h,Ty.bare]
  ·have:=(oa.join ob).join (pW.root (by rw [Nat.add_assoc];exact hroot) (fun h=>by simp only at h;omega) (fun h=>by simp only at h;omega))
   rwa [show bs+a.cnt+b.cnt+1=bs+(1+(a.cnt+b.cnt)) by omega] at this
 | @loop G p nm rg a b c U ha hb hc aM bH gL =>
  intro hn sc bs pre ms post bt hns hbs hE
  cases hn with
  | node _ hn =>
  simp only [NA,cf,cY,Bool.false_eq_true,if_false,if_true] at bt
  obtain ⟨ks,aR,⟨a1,c1,eK,⟨a2,c2,mf,⟨a3,c3,Gt,⟨_,rfl⟩,rfl⟩,rfl⟩,rfl⟩,rfl⟩:=bt
  rw [List.append_nil] at hns
  have la:=NA.len eK
  have lb:=NA.len mf
  have lc:=NA.len Gt
  have hroot:=at_root hns
  rw [hbs,List.length_append,List.length_append,la,lb,lc] at hroot
  have hty:=H _ _ hroot
  obtain ⟨uR,oa⟩:=aM (hn _ (by simp)) sc bs pre a1 (a2++(a3++([_]++post))) eK (by rw [hns];simp only [List.append_assoc];rfl) hbs hE
  obtain ⟨rR,ob⟩:=bH (hn _ (by simp)) sc (bs+a.cnt) (pre++a1) a2 (a3++([_]++post)) mf (by rw [hns];simp only [List.append_assoc];rfl) (by rw [List.length_append,hbs,la]) hE
  obtain ⟨hbc,oc⟩:=gL (hn _ (by simp)) _ (bs+a.cnt+b.cnt) (pre++a1++a2) a3 ([_]++post) Gt (by rw [hns];simp only [List.append_assoc];rfl) (by rw [List.length_append,List.length_append,hbs,la,lb]) (hE.snoc (N8 (bs+a.cnt) b) rR)
  simp only [PT.cnt,az,Nat.add_zero,eV]
  refine ⟨?_,?_⟩
  ·rw [hty]
   simp only [cR,fL,lR,aA,List.getD_cons_succ,List.getD_cons_zero]
   simpa using rR
  ·have:=((oa.join ob).join oc).join (pW.root (by rw [Nat.add_assoc,Nat.add_assoc];exact hroot) (fun _=>by simp only [aA,List.getD_cons_succ,List.getD_cons_zero];rw [rR,hbc]) (by simp [lR]))
   rwa [show bs+a.cnt+b.cnt+c.cnt+1=bs+(1+(a.cnt+(b.cnt+c.cnt))) by omega] at this
 | new _ _ =>
  intro hn
  cases hn with
  | node hk _=>exact absurd rfl hk
end Go.Proofs.YtpicaknklgccoabGreatDoor
