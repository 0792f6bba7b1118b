import Derived.Test.YtpicaknklgccoabGreatDoorS13
set_option maxHeartbeats 16000000
set_option maxRecDepth 100000
namespace Go.Proofs.YtpicaknklgccoabGreatDoor
def cJ (E:List Nat):Ty->Ty->List Nat
 | .p r a b,.p s c d=>if Ty.p r a b=Ty.p s c d then E else cJ (cJ (jd E r s) a c) b d
 | _,_=>E
theorem cK:∀ (a b:Ty) (E:List Nat),(cJ E a b).length=E.length
 | .n,_,_=>by simp [cJ]
 | .p _ _ _,.n,_=>by simp [cJ]
 | .p r a b,.p s c d,E=>by
  simp only [cJ]
  split
  ·rfl
  ·rw [cK b d,cK a c,fo]
theorem wC {tb:List TP} {D:List Ty} {K:List Nat} {T:List Ty} (h:Rel tb D K T):∀ (f:Nat) (E:List Nat) (x y:Nat),x < f->x<=tb.length->y<=tb.length->mc tb f E x y=cJ E (cw D x) (cw D y)
 | 0,_,_,_,h1,_,_=>by omega
 | f+1,E,x,y,h1,hx,hy=>by
  simp only [mc]
  by_cases e:x=y
  ·rw [if_pos (Or.inl e),e]
   cases cw D y with
   | n=>rfl
   | p r a b=>simp [cJ]
  ·by_cases x0:x=0
   ·rw [if_pos (Or.inr (Or.inl x0)),(h.num x hx).2 x0];rfl
   ·by_cases y0:y=0
    ·rw [if_pos (Or.inr (Or.inr y0)),(h.num y hy).2 y0]
     cases cw D x <;> rfl
    ·rw [if_neg (by omega)]
     obtain ⟨p,_,p2,p3,p4,p5⟩:=h.pair x x0 hx
     obtain ⟨q,_,q2,q3,q4,q5⟩:=h.pair y y0 hy
     have hne:cw D x≠cw D y:=fun e'=>e ((h.Tb hx hy).1 e')
     rw [p5,q5,wC h f _ p.a q.a (by omega) (by omega) (by omega),wC h f _ p.b q.b (by omega) (by omega) (by omega)]
     rw [p2,q2] at hne ⊢
     simp only [cJ]
     rw [if_neg hne]
def iE (f:Nat->Nat):Ty->Ty
 | .n=>.n
 | .p r a b=>.p (f r) (iE f a) (iE f b)
theorem LK (f:Nat->Nat) (t:Ty):iE f (CH t)=CH (iE f t):=by cases t <;> rfl
theorem LL (f:Nat->Nat) (t:Ty):iE f (CI t)=CI (iE f t):=by cases t <;> rfl
theorem kQ (f:Nat->Nat) (T:List Ty) (i:Int):ai (T.map (iE f)) i=iE f (ai T i):=by
 unfold ai
 split
 ·rw [List.getElem?_map];cases T[i.toNat]? <;> rfl
 ·rfl
def gy (c c':Nat->Nat):Prop:=∀ i j,c i=c j->c' i=c' j
theorem gy.refl (c:Nat->Nat):gy c c:=fun _ _ h=>h
theorem gy.trans {a b c:Nat->Nat} (h:gy a b) (g:gy b c):gy a c:=fun i j e=>g i j (h i j e)
theorem gy.map {c c':Nat->Nat} (h:gy c c'):∀ (a b:Ty),iE c a=iE c b->iE c' a=iE c' b
 | .n,.n,_=>rfl
 | .n,.p _ _ _,e=>by simp [iE] at e
 | .p _ _ _,.n,e=>by simp [iE] at e
 | .p r a b,.p s x y,e=>by
  simp only [iE,Ty.p.injEq] at e ⊢
  exact ⟨h r s e.1,h.map a x e.2.1,h.map b y e.2.2⟩
def nJ (n:Nat) (t:Ty):Prop:=∀ r∈t.zh,r < n
theorem nJ.p {n r:Nat} {a b:Ty} (h:nJ n (.p r a b)):r < n/\nJ n a/\nJ n b :=
 ⟨h r (by simp [Ty.zh]),fun x hx=>h x (by simp [Ty.zh,hx]),fun x hx=>h x (by simp [Ty.zh,hx])⟩
theorem CJ (E:List Nat) (x y:Nat) (hx:x < E.length) (hy:y < E.length):gy (bu E) (bu (jd E x y)):=fun i j h=>by
 rw [nV E x y hx hy,nV E x y hx hy];exact I6 _ x y h
theorem iF:∀ (a b:Ty) (E:List Nat),nJ E.length a->nJ E.length b->gy (bu E) (bu (cJ E a b))
 | .n,_,_,_,_=>by simp only [cJ];exact gy.refl _
 | .p _ _ _,.n,_,_,_=>by simp only [cJ];exact gy.refl _
 | .p r a b,.p s c d,E,h1,h2=>by
  simp only [cJ]
  split
  ·exact gy.refl _
  ·obtain ⟨r1,r2,r3⟩:=h1.p
   obtain ⟨s1,s2,s3⟩:=h2.p
   refine (CJ E r s r1 s1).trans ((iF a c _ ?_ ?_).trans (iF b d _ ?_ ?_))
   ·rw [fo];exact r2
   ·rw [fo];exact s2
   ·rw [cK,fo];exact r3
   ·rw [cK,fo];exact s3
theorem qN:∀ (a b:Ty) (E:List Nat),a.bare=b.bare->nJ E.length a->nJ E.length b->iE (bu (cJ E a b)) a=iE (bu (cJ E a b)) b
 | .n,.n,_,_,_,_=>rfl
 | .n,.p _ _ _,_,h,_,_=>by simp [Ty.bare] at h
 | .p _ _ _,.n,_,h,_,_=>by simp [Ty.bare] at h
 | .p r a b,.p s c d,E,h,h1,h2=>by
  simp only [Ty.bare,Ty.p.injEq,true_and] at h
  simp only [cJ]
  split
  ·rename_i e;rw [e]
  ·obtain ⟨r1,r2,r3⟩:=h1.p
   obtain ⟨s1,s2,s3⟩:=h2.p
   have l1:=fo E r s
   have l2:=cK a c (jd E r s)
   have k1:=iF a c (jd E r s) (by rw [l1];exact r2) (by rw [l1];exact s2)
   have k2:=iF b d (cJ (jd E r s) a c) (by rw [l2,l1];exact r3) (by rw [l2,l1];exact s3)
   have m1:=qN a c (jd E r s) h.1 (by rw [l1];exact r2) (by rw [l1];exact s2)
   have m2:=qN b d (cJ (jd E r s) a c) h.2 (by rw [l2,l1];exact r3) (by rw [l2,l1];exact s3)
   have hj:bu (jd E r s) r=bu (jd E r s) s:=by rw [nV E r s r1 s1,nV E r s r1 s1];exact Lh _ r s
   simp only [iE,Ty.p.injEq]
   exact ⟨k2 r s (k1 r s hj),k2.map a c m1,m2⟩
def atR (n:NR):NR:={ n with region:=n.at_ }
def fL (n:NR) (r:Int):NR:={ n with region:=r }
def sj:List Ty->List Nat->List NR->List Nat
 | _,E,[]=>E
 | T,E,n::r=>sj (T++[cR T (atR n)]) (if n.form=7\/n.form=11 then cJ E (ai (T++[cR T (atR n)]) n.p1) (ai (T++[cR T (atR n)]) n.p2) else E) r
theorem G8:∀ (ns:List NR) (T:List Ty) (E:List Nat),(sj T E ns).length=E.length
 | [],_,_=>rfl
 | n::r,T,E=>by
  simp only [sj]
  rw [G8 r]
  split
  ·rw [cK]
  ·rfl
theorem gP {n:Nat} {T:List Ty} (h:∀ t∈T,nJ n t) (i:Int):nJ n (ai T i):=by
 unfold ai
 split
 ·cases e:T[i.toNat]? with
  | none=>intro r hr;simp [Ty.zh] at hr
  | some t=>exact h t (List.mem_of_getElem? e)
 ·intro r hr;simp [Ty.zh] at hr
theorem CK {n:Nat} {T:List Ty} (h:∀ t∈T,nJ n t) (m:NR) (hm:m.region.toNat < n):nJ n (cR T m):=by
 have h0:=gP h m.p0
 have h1:=gP h m.p1
 have h2:=gP h m.source
 have hn:nJ n .n:=fun r hr=>by simp [Ty.zh] at hr
 unfold cR
 split
 ·exact h2
 split
 ·exact h0
 split
 ·exact h1
 split
 ·exact h1
 split
 ·exact h1
 split
 ·intro r hr
  simp only [Ty.zh,List.mem_cons,List.mem_append] at hr
  rcases hr with hr | hr | hr
  ·omega
  ·exact h0 r hr
  ·exact h1 r hr
 split
 ·cases e:ai T m.p0 with
  | n=>exact hn
  | p r a b=>rw [e] at h0;exact h0.p.2.1
 split
 ·cases e:ai T m.p0 with
  | n=>exact hn
  | p r a b=>rw [e] at h0;exact h0.p.2.2
 ·exact hn
def tF:List Ty->List NR->Prop
 | _,[]=>True
 | T,n::r=>(n.form=7\/n.form=11->(ai (T++[cR T n]) n.p1).bare=(ai (T++[cR T n]) n.p2).bare)/\tF (T++[cR T n]) r
def LM (c:Nat->Nat):List Ty->List NR->Prop
 | _,[]=>True
 | T,n::r=>(n.form=7\/n.form=11->iE c (ai (T++[cR T n]) n.p1)=iE c (ai (T++[cR T n]) n.p2))/\LM c (T++[cR T n]) r
theorem qO:∀ (ns:List NR) (T:List Ty) (E:List Nat),(∀ t∈T,nJ E.length t)->(∀ n∈ns,n.at_ < E.length)->gy (bu E) (bu (sj T E ns))
 | [],_,_,_,_=>gy.refl _
 | n::r,T,E,h,hn=>by
  have hb:∀ t∈T++[cR T (atR n)],nJ E.length t:=fun t ht=>by
   rcases List.mem_append.1 ht with ht | ht
   ·exact h t ht
   ·simp only [List.mem_singleton] at ht;subst ht;exact CK h _ (by simpa [atR] using hn n (by simp))
  simp only [sj]
  split
  ·refine (iF _ _ E (gP hb _) (gP hb _)).trans (qO r _ _ ?_ ?_)
   ·rw [cK];exact hb
   ·rw [cK];exact fun m hm=>hn m (by simp [hm])
  ·exact qO r _ _ hb (fun m hm=>hn m (by simp [hm]))
theorem A8:∀ (ns:List NR) (T:List Ty) (E:List Nat),(∀ t∈T,nJ E.length t)->(∀ n∈ns,n.at_ < E.length)->tF T (ns.map atR)->LM (bu (sj T E ns)) T (ns.map atR)
 | [],_,_,_,_,_=>trivial
 | n::r,T,E,h,hn,ha=>by
  have hb:∀ t∈T++[cR T (atR n)],nJ E.length t:=fun t ht=>by
   rcases List.mem_append.1 ht with ht | ht
   ·exact h t ht
   ·simp only [List.mem_singleton] at ht;subst ht;exact CK h _ (by simpa [atR] using hn n (by simp))
  simp only [List.map_cons,tF] at ha
  simp only [List.map_cons,LM,sj]
  have hf:(atR n).form=n.form:=rfl
  by_cases hc:n.form=7\/n.form=11
  ·rw [if_pos hc]
   have hb2:∀ t∈T++[cR T (atR n)],nJ (cJ E (ai (T++[cR T (atR n)]) n.p1) (ai (T++[cR T (atR n)]) n.p2)).length t:=by rw [cK];exact hb
   have mf:∀ m∈r,m.at_ < (cJ E (ai (T++[cR T (atR n)]) n.p1) (ai (T++[cR T (atR n)]) n.p2)).length:=by rw [cK];exact fun m hm=>hn m (by simp [hm])
   refine ⟨fun _=>?_,A8 r _ _ hb2 mf ha.2⟩
   exact (qO r _ _ hb2 mf).map _ _ (qN _ _ E (ha.1 hc) (gP hb _) (gP hb _))
  ·rw [if_neg hc]
   exact ⟨fun h=>absurd h hc,A8 r _ _ hb (fun m hm=>hn m (by simp [hm])) ha.2⟩
theorem PV (f:Nat->Nat) (T:List Ty) (n m:NR) (hm:m={ n with region:=m.region }) (hf:n.form=4->m.region.toNat=f n.region.toNat):cR (T.map (iE f)) m=iE f (cR T n):=by
 have e1:m.form=n.form:=by rw [hm]
 have e2:m.source=n.source:=by rw [hm]
 have e3:m.p0=n.p0:=by rw [hm]
 have e4:m.p1=n.p1:=by rw [hm]
 unfold cR
 rw [e1,e2,e3,e4,kQ,kQ,kQ,<- LK,<- LL]
 by_cases h4:n.form=4
 ·rw [hf h4];simp [h4,iE]
 ·simp only [h4,if_false]
  repeat' split
  all_goals rfl
open Go.RowKit
theorem uZ (w:World) (nv ov:Value) (ns:List NR) (op:List Int) (h:bg w nv ov ns op) (ho:wq ns op) (hl:ns.length<=9000) (tk:∀ n∈ns,n.small) (hrg:∀ n∈ns,0<=n.region) (hsz:jm [] ns) :
  Calls Tryz.prog 47 #[aJ nv ov] w fun v w'=>v=.returned (.tuple #[.int .i64 (uD [] ns).1,.int .i64 (uD [] ns).2])/\Below w.heap.size w w':=by
 have hlen:=fun (w':World) (hb:Below w.heap.size w w')=>gJ w' nv ov ns op (h.below hb)
 have mR:=fun (w':World) (hb:Below w.heap.size w w') (k:Nat) (n:NR) (hk:ns[k]?=some n)=>ew w' nv ov ns op (h.below hb) k n hk hl
 obtain ⟨a0,j7,e0⟩:=aF h.nd
 obtain ⟨a1,kO,e1⟩:=aF h.op
 rw [ho.1] at e1
 obtain ⟨m,hm⟩:∃ m,m=ns.length:=⟨_,rfl⟩
 rw [<- hm] at e0 e1 hl
 subst e0
 subst e1
 unfold aJ at hlen mR
 unfold aJ
 unfold aI at mR
 rw [<- hm] at hlen
 have l7:Hid _:=hlen
 have E9:Hid _:=mR
 have HM:Hid _:=hm
 have Tg:Hid _:=tk
 have ZG:Hid _:=hrg
 have Tq:Hid _:=hsz
 obtain ⟨ans,cQ⟩:∃ ans,ans=uD [] ns:=⟨_,rfl⟩
 rw [<- cQ]
 have HA:Hid _:=cQ
 clear hlen mR ho h hm cQ tk hrg hsz
 have Cg:Below w.heap.size w (w.alloc (.cells #[.slice a0 m j7,.slice a1 m kO] 62)):=(Below.refl _ w).alloc (Nat.le_refl _) _
 have dP:Hid _:=Cg
 clear Cg
 obtain ⟨wb,ET⟩:∃ wb,wb=w.alloc (.cells #[.slice a0 m j7,.slice a1 m kO] 62):=⟨_,rfl⟩
 have EM:Hid (∀ wr,Below wb.heap.size wb wr->wr.cell? ⟨w.heap.size,0,none⟩=some (.slice a0 m j7)/\wr.cell? ⟨w.heap.size,1,none⟩=some (.slice a1 m kO)/\w.heap.size < wr.heap.size):=by
  intro wr hb
  rw [ET] at hb
  exact dm hb
 have yR:Hid (Below w.heap.size w wb):=by rw [ET];exact dP.out
 have WG:Hid (A1 wb.heap.size (wb.alloc (.cells #[.slice none 0 0,.slice none 0 0] 104)) (.slice none 0 0) (.slice none 0 0) [] []):=⟨aj _ _,World.ownsRow_nil _ _ _ _,World.ownsRow_nil _ _ _ _,by simp [Value.ownBlock],by simp [Value.ownBlock],fun g hg=>by simp [Value.ownBlock] at hg⟩
 have A2:w.heap.size<=wb.heap.size:=yR.out.size
 have O8:Hid _:=ET
 clear ET dP
 go_enter Tryz.func47,Tryz.ntmps47
 go_wp2
 rw [<- O8.out]
 have Fl:w.heap.size+1=wb.heap.size:=by rw [O8.out];simp
 rw [Fl]
 clear Fl O8
 go_loopw [5,6,7] (fun i _ _ wr=>∃ k:Nat,k<=m/\i=.int .i64 k/\∃ pv tv tb D K T,A1 wb.heap.size wr pv tv tb K/\Rel tb D K T/\K.length=k/\tb.length<=k/\uD [] ns=uD T (ns.drop k)/\jm T (ns.drop k)/\Below wb.heap.size wb wr/\wb.heap.size < wr.heap.size/\(∀ g,pv.ownBlock=some g->wb.heap.size<=g)/\(∀ g,tv.ownBlock=some g->wb.heap.size<=g)) (fun i _ _ _=>m - (intOf i).toNat)
 case atStart=>exact ⟨0,by omega,rfl,_,_,[],[],[],[],WG.out,Ls,rfl,by simp,by simp,Tq.out,(Below.refl _ wb).alloc (Nat.le_refl _) _,by simp,by simp [Value.ownBlock],by simp [Value.ownBlock]⟩
 case round =>
  obtain ⟨k,hk,rfl,pv,tv,tb,D,K,T,hC,jS,E8,htl,qJ,zW,dF,hbs,rS,wu⟩:=hrel
  have qK:Below w.heap.size w wr:=yR.out.trans (dF.mono A2)
  obtain ⟨x0,x1,xl⟩:=EM.out _ dF
  have il:=l7.out wr qK
  have qd:=dF.size
  by_cases hlt:k < m
  ·have hkl:k < ns.length:=by have:=HM.out;omega
   obtain ⟨n,hn⟩:∃ n,ns[k]?=some n:=⟨ns[k],List.getElem?_eq_getElem hkl⟩
   have dS:=Tg.out n (List.mem_of_getElem? hn)
   have aah:=ZG.out n (List.mem_of_getElem? hn)
   have ml:ns.drop k=n::ns.drop (k+1):=by
    rw [List.drop_eq_getElem_cons hkl];rw [List.getElem?_eq_getElem hkl] at hn;simp only [Option.some.injEq] at hn;rw [hn]
   rw [ml] at qJ zW
   simp only [uD] at qJ
   simp only [jm] at zW
   obtain ⟨r,hr⟩:∃ r,r=n.region.toNat:=⟨_,rfl⟩
   obtain ⟨D',iB⟩:=LJ jS n zW.1
   rw [<- hr] at iB
   have hok:Ta tb K n:=⟨by omega,by omega,fun i=>by have:=(jS.known i).2.1;omega,fun j=>by have:=jS.GX j;omega,⟨by have:=dS.1;omega,by have:=dS.1;omega⟩,⟨by have:=dS.2.1;omega,by have:=dS.2.1;omega⟩,⟨by have:=dS.2.2.1;omega,by have:=dS.2.2.1;omega⟩,⟨by have:=dS.2.2.2;omega,by have:=dS.2.2.2;omega⟩⟩
   have hpl:=mB tb r (au K n.p0) (au K n.p1)
   have uY:(ic tb K n r).2.length<=k+1:=by
    unfold ic
    repeat' split
    all_goals first | (simp only;omega) | omega
   have hvf:=Tp iB n
   have hkn:=(iB.known n.p0).2.1
   have hlow:=iB.low
   have hty:=fun (w':World) (hb:Below wr.heap.size wr w')=>GZ w' wb.heap.size pv tv tb K n n.region r (fun _=>by omega) (hC.below hb) hok
   have hfa:=fun (w':World) (mO pY:Value) (hC':A1 wb.heap.size w' mO pY (ic tb K n r).2 (K++[(ic tb K n r).1]))=>A6 w' wb.heap.size mO pY (ic tb K n r).2 (K++[(ic tb K n r).1]) n hC' hlow (by omega) (by simp;omega) hkn hok.p0 hok.p1 hok.p2
   rw [hvf] at hfa
   generalize pR (T++[cR T n]) n=F at *
   unfold ptr aI at hty hfa
   have PJ:Hid _:=hty
   have Lw:Hid _:=hfa
   have HN:Hid _:=hn
   have WH:Hid _:=qJ
   have Tr:Hid _:=zW.2
   have Lx:Hid _:=iB
   have iA:Hid _:=dF
   have HC:Hid _:=hC
   have RX:Hid _:=rS
   have KW:Hid _:=wu
   have WI:Hid _:=E8
   have RY:Hid _:=uY
   clear hn dS aah ml qJ zW hok hty jS iB hC dF rS wu hkl E8 htl hfa uY hpl hvf hkn hlow hr
   go_wp2_with fail
   refine il.mono ?_
   rintro _ w1 ⟨rfl,hb1⟩
   obtain ⟨d0,d1,dl⟩:=EM.out _ (iA.out.trans (hb1.mono qd))
   have hno:=E9.out w1 (yR.out.trans ((iA.out.trans (hb1.mono qd)).mono A2)) k n HN.out
   have dG:Hid _:=hb1
   clear hb1 il x0 x1
   go_wp2_with fail
   refine hno.mono ?_
   rintro _ w2 ⟨rfl,hb2⟩
   have eH:Below wr.heap.size wr w2:=dG.out.trans (hb2.mono dG.out.size)
   have r9:=eH.alloc eH.size (bU n)
   have hty:=PJ.out _ r9
   have EO:Hid _:=r9
   have aad:=eH.size
   clear hb2 eH hno d0 d1 r9 PJ
   unfold bU za at hty
   go_wp2_with fail
   refine hty.mono ?_
   rintro _ w3 ⟨rfl,Jc,O7,bQ,EK⟩
   have hnb:w3.heap[w2.heap.size]?=some (bU n):=by
    rw [bQ.blk w2.heap.size (by simp) (by omega) (fun e=>by have:=(HC.out.lt.1 _ e);omega) (fun e=>by have:=(HC.out.lt.2.1 _ e);omega)]
    exact aj _ _
   have ES:Below wb.heap.size wb (w2.alloc (bU n)):=iA.out.trans (EO.out.mono qd)
   obtain ⟨g1,g2,g3⟩:=bQ.toBelow ES (Nat.le_refl _) (by simp;omega) RX.out KW.out
   have Th:=bQ.size
   have aae:wb.heap.size < w3.heap.size:=by simp at Th;omega
   have hfa:=Lw.out w3 Jc O7 EK
   obtain ⟨d0,d1,d2,d3,d4,d5,d6,d7,d8,d9⟩:=aC hnb
   have kN:=af hnb
   have Jd:Hid _:=EK
   have Ti:Hid _:=g1
   have HG2:Hid _:=g2
   have WK:Hid _:=g3
   have KX:Hid _:=hnb
   clear bQ EK hnb ES g1 g2 g3 hty EO Lw
   go_wp2_with fail
   refine hfa.mono ?_
   rintro _ w4 ⟨rfl,hb4⟩
   have c1:w4.cell? ⟨w2.heap.size,1,none⟩=some (.int .i64 n.at_):=by rw [hb4.cell (p:=⟨w2.heap.size,1,none⟩) kN];exact d1
   have pP:Hid _:=hb4
   have Tj:=hb4.size
   clear hb4 hfa d0 d1 d2 d3 d4 d5 d6 d7 d8 d9
   by_cases hf:F=0
   ·have q2:((F:Int) != 0)=false:=by simp;omega
    have qJ:=WH.out
    rw [if_neg (by omega)] at qJ
    have WL:Hid _:=Jd.out.below pP.out
    have Tm:Hid _:=qJ
    clear hf qJ Jd
    go_wp2
    go_roundw
    case rel=>exact ⟨k+1,by omega,by go_num,Jc,O7,_,D',_,_,WL.out,Lx.out,by simp [WI.out],RY.out,Tm.out,Tr.out,Ti.out.trans (pP.out.mono (by omega)),by omega,HG2.out,WK.out⟩
    case measure=>simp [intOf];omega
   ·have q2:((F:Int) != 0)=true:=by simp;omega
    have qJ:=WH.out
    rw [if_pos hf] at qJ
    have Lz:Hid (ans=(F,n.at_)):=by rw [HA.out];exact qJ
    clear hf qJ
    go_wp2
    go_quiet (fail)
    go_wp2
    refine bodyPost_ret (v:=.tuple #[.int .i64 F,.int .i64 n.at_]) (by simp [results,Tryz.results47,go_sem]) rfl ⟨by rw [Lz.out],?_⟩
    exact (yR.out.trans ((Ti.out.trans (pP.out.mono (by omega))).mono A2)).trans ⟨rfl,rfl,rfl,Nat.le_refl _,fun _ _=>rfl⟩
  ·have Lz:Hid (ans=(0,0)):=by
    have hd:ns.drop k=[]:=List.drop_eq_nil_of_le (by have:=HM.out;omega)
    rw [hd] at qJ
    rw [HA.out,qJ];exact rfl
   have iA:Hid _:=dF
   clear dF hC jS qJ rS wu zW
   go_wp2_with fail
   refine il.mono ?_
   rintro _ w1 ⟨rfl,hb1⟩
   have dG:Hid _:=yR.out.trans ((iA.out.trans (hb1.mono qd)).mono A2)
   clear hb1 il
   go_wp2
   refine bodyPost_ret (v:=.tuple #[.int .i64 0,.int .i64 0]) (by simp [results,Tryz.results47,go_sem]) rfl ⟨by rw [Lz.out];rfl,dG.out⟩
def qP (ns:List NR) (op:List Int):Nat × Nat :=
 if (dW (bE ns op) []).2.1≠0 then (dW (bE ns op) []).2
 else if (mE (dW (bE ns op) []).1 (bE ns op)).1≠0 then mE (dW (bE ns op) []).1 (bE ns op)
 else uD [] ns
theorem tG:∀ (l acc:List NR),(dW l acc).1.length<=acc.length+l.length
 | [],acc=>by simp [dW]
 | n::r,acc=>by
  simp only [dW,List.length_cons]
  split
  ·split
   ·simp only;omega
   ·have:=tG r (acc++[n]);simp at this;omega
  ·have:=tG r acc;omega
theorem wD (w:World) (nv ov:Value) (ns:List NR) (op:List Int) (h:bg w nv ov ns op) (ho:wq ns op) (hl:ns.length<=9000) (tk:∀ n∈ns,n.small) (hrg:∀ n∈ns,0<=n.region) (hsz:jm [] ns) :
  Calls Tryz.prog 27 #[aJ nv ov] w fun v w'=>v=.returned (.tuple #[.int .i64 (qP ns op).1,.int .i64 (qP ns op).2])/\Below w.heap.size w w':=by
 have hne:=fun (w':World) (hb:Below w.heap.size w w')=>Fe w' nv ov ns op (h.below hb) ho hl
 have WV:(dW (bE ns op) []).1.length<=9000:=by
  have:=tG (bE ns op) []
  rw [kP,ho.1] at this
  simp at this;omega
 have Tt:=fun (w':World) (hb:Below w.heap.size w w') (vv:Value) (base:Nat) (hown:w'.ownsRow base 108 10 vv (dW (bE ns op) []).1.length ((dW (bE ns op) []).1.flatMap qg))=>CF w' nv ov vv ns op _ base (h.below hb) ho hl hown WV
 have hpl:=fun (w':World) (hb:Below w.heap.size w w')=>uZ w' nv ov ns op (h.below hb) ho hl tk hrg hsz
 obtain ⟨a0,j7,e0⟩:=aF h.nd
 obtain ⟨a1,kO,e1⟩:=aF h.op
 rw [ho.1] at e1
 obtain ⟨m,hm⟩:∃ m,m=ns.length:=⟨_,rfl⟩
 rw [<- hm] at e0 e1 hl
 subst e0
 subst e1
 obtain ⟨ans,cQ⟩:∃ ans,ans=qP ns op:=⟨_,rfl⟩
 rw [<- cQ]
 unfold qP at cQ
 have HA:Hid _:=cQ
 unfold aJ at hne Tt hpl
 unfold aJ
 have K1:Hid _:=hne
 have HOU:Hid _:=Tt
 have Tu:Hid _:=hpl
 have dP:Hid (Below w.heap.size w (w.alloc (.cells #[.slice a0 m j7,.slice a1 m kO] 62))):=(Below.refl _ w).alloc (Nat.le_refl _) _
 clear hne Tt hpl ho h hm cQ tk hrg hsz WV
 generalize dW (bE ns op) []=N at *
 generalize mE N.1 (bE ns op)=O at *
 generalize uD [] ns=P at *
 go_enter Tryz.func27,Tryz.ntmps27
 go_wp2_with fail
 refine (K1.out _ dP.out).mono ?_
 rintro _ w1 ⟨vv,rfl,hown1,hb1⟩
 obtain ⟨b0,b1,bl⟩:=dm hb1
 have Tv:=dP.out.trans (hb1.mono (by simp))
 have Tt:=HOU.out w1 Tv vv _ hown1
 have dG:Hid _:=Tv
 have WW:Hid _:=hb1
 clear hb1 Tv hown1
 by_cases h1:N.2.1=0
 ·have q1:((N.2.1:Int) != 0)=false:=by rw [h1];rfl
  have V3:Hid (ans=if O.1≠0 then O else P):=(show ans=_ by rw [HA.out,if_neg (by omega)])
  clear HA h1
  go_wp2_with fail
  refine Tt.mono ?_
  rintro _ w2 ⟨rfl,hb2⟩
  have WX:=WW.out.trans (hb2.mono WW.out.size)
  obtain ⟨c0,c1,cl⟩:=dm WX
  have lE:=dG.out.trans (hb2.mono dG.out.size)
  have hpl:=Tu.out w2 lE
  have dU:Hid _:=lE
  clear hb2 WX lE Tt b0 b1
  by_cases h2:O.1=0
  ·have q2:((O.1:Int) != 0)=false:=by rw [h2];rfl
   have Tn:Hid (ans=P):=(show ans=_ by rw [V3.out,if_neg (by omega)])
   clear V3 h2
   go_wp2_with fail
   refine hpl.mono ?_
   rintro _ w3 ⟨rfl,hb3⟩
   have iV:Hid _:=dU.out.trans (hb3.mono dU.out.size)
   clear hb3 hpl
   go_wp2
   refine bodyPost_ret (v:=.tuple #[.int .i64 P.1,.int .i64 P.2]) (by simp [results,Tryz.results27,go_sem]) rfl ⟨by rw [Tn.out],iV.out⟩
  ·have q2:((O.1:Int) != 0)=true:=by simp;omega
   have Tn:Hid (ans=O):=(show ans=_ by rw [V3.out,if_pos h2])
   clear V3 h2 hpl
   go_wp2
   refine bodyPost_ret (v:=.tuple #[.int .i64 O.1,.int .i64 O.2]) (by simp [results,Tryz.results27,go_sem]) rfl ⟨by rw [Tn.out],dU.out⟩
 ·have q1:((N.2.1:Int) != 0)=true:=by simp;omega
  have V3:Hid (ans=N.2):=(show ans=_ by rw [HA.out,if_pos h1])
  clear HA h1 Tt
  go_wp2
  refine bodyPost_ret (v:=.tuple #[.int .i64 N.2.1,.int .i64 N.2.2]) (by simp [results,Tryz.results27,go_sem]) rfl ⟨by rw [V3.out],dG.out⟩
theorem sr (w:World) (nv ov:Value) (ns:List NR) (op:List Int) (h:bg w nv ov ns op) (hl:ns.length<=9000):Calls Tryz.prog 55 #[aJ nv ov] w fun v w'=>v=.returned (.int .i64 ((ns.length:Int) - 1))/\Below w.heap.size w w':=by
 obtain ⟨a,cap,rfl⟩:=aF h.nd
 obtain ⟨a',cap',rfl⟩:=aF h.op
 clear h
 unfold aJ
 go_enter Tryz.func55,Tryz.ntmps55
 go_wp2
 go_ret
 exact ⟨rfl,(Below.refl _ _).alloc (Nat.le_refl _) _⟩
theorem tH {W w:World} {b:Nat} (h:Below b W w):Below b W w.drew:=h.trans ⟨rfl,rfl,rfl,Nat.le_refl _,fun _ _=>rfl⟩
theorem fU {W w:World} {n:Nat} {b:Nat} (h:Below b W w):Below b W (w.drewN n):=h.trans ⟨rfl,rfl,rfl,Nat.le_refl _,fun _ _=>rfl⟩
theorem cB {w W:World} (h:Below w.heap.size w W) (o:Obj):Below w.heap.size w (W.alloc o):=h.alloc h.size o
theorem kR {P:Program} {ops:Array Oper} {o:Oper} {a:Act} {w:World} {K:Act->World->Prop} {Q:Exit->Act->World->Prop} {E:Prop} (hg:o.guard=none)
  (f:FuncId) (args:Array Value) (hrun:(execOp a.eval o).run P w=.ok (.enter f args) w) (h:Calls P f args w fun e w'=>∃ v,e=.returned v/\K (a.put o.dst v) w'):if Region.wanted o (yielded ops a.tmps)=true then Oper.wp P o a w K Q else E:=by
 have hw:Region.wanted o (yielded ops a.tmps)=true:=by simp [Region.wanted,hg]
 rw [if_pos hw]
 unfold Oper.wp
 rw [hrun]
 refine Calls.mono h ?_
 rintro e w' ⟨v,rfl,hk⟩
 exact hk
abbrev nz:Array Value:=#[.int .i64 0,.int .i64 0,.int .i64 0,.int .i64 0,.string ⟨#[]⟩,.int .i64 0,.int .i64 0,.int .i64 0,.int .i64 0,.int .i64 0]
theorem su {w:World} {b:Nat} (h:w.heap[b]?=some (.cells nz 108 (0,0))):w.cell? ⟨b,0,none⟩=some (.int .i64 0)/\w.cell? ⟨b,1,none⟩=some (.int .i64 0)/\w.cell? ⟨b,2,none⟩=some (.int .i64 0)/\w.cell? ⟨b,3,none⟩=some (.int .i64 0)/\w.cell? ⟨b,4,none⟩=some (.string ⟨#[]⟩)/\w.cell? ⟨b,5,none⟩=some (.int .i64 0)/\w.cell? ⟨b,6,none⟩=some (.int .i64 0)/\w.cell? ⟨b,7,none⟩=some (.int .i64 0)/\w.cell? ⟨b,8,none⟩=some (.int .i64 0)/\w.cell? ⟨b,9,none⟩=some (.int .i64 0):=by
 refine ⟨?_,?_,?_,?_,?_,?_,?_,?_,?_,?_⟩ <;> (rw [aa h];rfl)
theorem vC {w:World} {b:Nat} (h:w.heap[b]?=some (.cells nz 108 (0,0))):w.frozen? ⟨b,0,none⟩=false/\w.frozen? ⟨b,1,none⟩=false/\w.frozen? ⟨b,2,none⟩=false/\w.frozen? ⟨b,3,none⟩=false/\w.frozen? ⟨b,4,none⟩=false/\w.frozen? ⟨b,5,none⟩=false/\w.frozen? ⟨b,6,none⟩=false/\w.frozen? ⟨b,7,none⟩=false/\w.frozen? ⟨b,8,none⟩=false/\w.frozen? ⟨b,9,none⟩=false :=
 ⟨ag h 0,ag h 1,ag h 2,ag h 3,ag h 4,ag h 5,ag h 6,ag h 7,ag h 8,ag h 9⟩
theorem eO {B b o:Nat} {w0 w:World} {v:Value} (h:Below B w0 w) (hb:B<=b):Below B w0 (w.setCell ⟨b,o,none⟩ v) :=
 ⟨h.os,h.tape,h.output,by have:=h.size;simp only [World.setCell,Array.size_modify];omega,fun k hk=>by rw [ak _ _ (by simp only;omega)];exact h.block k hk⟩
theorem A9 {B b:Nat} {w0 w:World} (v0 v1 v2 v3 v4 v5 v6 v7 v8 v9:Value) (hw:Below B w0 w) (hb:B<=b) (h:w.heap[b]?=some (.cells nz 108 (0,0))) :
  ((((((((((w.setCell ⟨b,0,none⟩ v0).setCell ⟨b,1,none⟩ v1).setCell ⟨b,2,none⟩ v2).setCell ⟨b,3,none⟩ v3).setCell ⟨b,4,none⟩ v4).setCell ⟨b,5,none⟩ v5).setCell ⟨b,6,none⟩ v6).setCell ⟨b,7,none⟩ v7).setCell ⟨b,8,none⟩ v8).setCell ⟨b,9,none⟩ v9).heap[b]?=some (.cells #[v0,v1,v2,v3,v4,v5,v6,v7,v8,v9] 108 (0,0))/\Below B w0 ((((((((((w.setCell ⟨b,0,none⟩ v0).setCell ⟨b,1,none⟩ v1).setCell ⟨b,2,none⟩ v2).setCell ⟨b,3,none⟩ v3).setCell ⟨b,4,none⟩ v4).setCell ⟨b,5,none⟩ v5).setCell ⟨b,6,none⟩ v6).setCell ⟨b,7,none⟩ v7).setCell ⟨b,8,none⟩ v8).setCell ⟨b,9,none⟩ v9):=by
 have h0:(w.setCell ⟨b,0,none⟩ v0).heap[b]?=some (.cells #[v0,.int .i64 0,.int .i64 0,.int .i64 0,.string ⟨#[]⟩,.int .i64 0,.int .i64 0,.int .i64 0,.int .i64 0,.int .i64 0] 108 (0,0)):=ay h 0 _
 have h1:((w.setCell ⟨b,0,none⟩ v0).setCell ⟨b,1,none⟩ v1).heap[b]?=some (.cells #[v0,v1,.int .i64 0,.int .i64 0,.string ⟨#[]⟩,.int .i64 0,.int .i64 0,.int .i64 0,.int .i64 0,.int .i64 0] 108 (0,0)):=ay h0 1 _
 have h2:(((w.setCell ⟨b,0,none⟩ v0).setCell ⟨b,1,none⟩ v1).setCell ⟨b,2,none⟩ v2).heap[b]?=some (.cells #[v0,v1,v2,.int .i64 0,.string ⟨#[]⟩,.int .i64 0,.int .i64 0,.int .i64 0,.int .i64 0,.int .i64 0] 108 (0,0)):=ay h1 2 _
 have h3:((((w.setCell ⟨b,0,none⟩ v0).setCell ⟨b,1,none⟩ v1).setCell ⟨b,2,none⟩ v2).setCell ⟨b,3,none⟩ v3).heap[b]?=some (.cells #[v0,v1,v2,v3,.string ⟨#[]⟩,.int .i64 0,.int .i64 0,.int .i64 0,.int .i64 0,.int .i64 0] 108 (0,0)):=ay h2 3 _
 have h4:(((((w.setCell ⟨b,0,none⟩ v0).setCell ⟨b,1,none⟩ v1).setCell ⟨b,2,none⟩ v2).setCell ⟨b,3,none⟩ v3).setCell ⟨b,4,none⟩ v4).heap[b]?=some (.cells #[v0,v1,v2,v3,v4,.int .i64 0,.int .i64 0,.int .i64 0,.int .i64 0,.int .i64 0] 108 (0,0)):=ay h3 4 _
 have h5:((((((w.setCell ⟨b,0,none⟩ v0).setCell ⟨b,1,none⟩ v1).setCell ⟨b,2,none⟩ v2).setCell ⟨b,3,none⟩ v3).setCell ⟨b,4,none⟩ v4).setCell ⟨b,5,none⟩ v5).heap[b]?=some (.cells #[v0,v1,v2,v3,v4,v5,.int .i64 0,.int .i64 0,.int .i64 0,.int .i64 0] 108 (0,0)):=ay h4 5 _
 have h6:(((((((w.setCell ⟨b,0,none⟩ v0).setCell ⟨b,1,none⟩ v1).setCell ⟨b,2,none⟩ v2).setCell ⟨b,3,none⟩ v3).setCell ⟨b,4,none⟩ v4).setCell ⟨b,5,none⟩ v5).setCell ⟨b,6,none⟩ v6).heap[b]?=some (.cells #[v0,v1,v2,v3,v4,v5,v6,.int .i64 0,.int .i64 0,.int .i64 0] 108 (0,0)):=ay h5 6 _
 have h7:((((((((w.setCell ⟨b,0,none⟩ v0).setCell ⟨b,1,none⟩ v1).setCell ⟨b,2,none⟩ v2).setCell ⟨b,3,none⟩ v3).setCell ⟨b,4,none⟩ v4).setCell ⟨b,5,none⟩ v5).setCell ⟨b,6,none⟩ v6).setCell ⟨b,7,none⟩ v7).heap[b]?=some (.cells #[v0,v1,v2,v3,v4,v5,v6,v7,.int .i64 0,.int .i64 0] 108 (0,0)):=ay h6 7 _
 have h8:(((((((((w.setCell ⟨b,0,none⟩ v0).setCell ⟨b,1,none⟩ v1).setCell ⟨b,2,none⟩ v2).setCell ⟨b,3,none⟩ v3).setCell ⟨b,4,none⟩ v4).setCell ⟨b,5,none⟩ v5).setCell ⟨b,6,none⟩ v6).setCell ⟨b,7,none⟩ v7).setCell ⟨b,8,none⟩ v8).heap[b]?=some (.cells #[v0,v1,v2,v3,v4,v5,v6,v7,v8,.int .i64 0] 108 (0,0)):=ay h7 8 _
 have h9:((((((((((w.setCell ⟨b,0,none⟩ v0).setCell ⟨b,1,none⟩ v1).setCell ⟨b,2,none⟩ v2).setCell ⟨b,3,none⟩ v3).setCell ⟨b,4,none⟩ v4).setCell ⟨b,5,none⟩ v5).setCell ⟨b,6,none⟩ v6).setCell ⟨b,7,none⟩ v7).setCell ⟨b,8,none⟩ v8).setCell ⟨b,9,none⟩ v9).heap[b]?=some (.cells #[v0,v1,v2,v3,v4,v5,v6,v7,v8,v9] 108 (0,0)):=ay h8 9 _
 exact ⟨h9,eO (eO (eO (eO (eO (eO (eO (eO (eO (eO hw hb) hb) hb) hb) hb) hb) hb) hb) hb) hb⟩
theorem LN {w W0 w':World} {sb o:Nat} {A:Array Value} {T:TypeId} {ev nv:Value} (hy:w.heap[sb]?=some (.cells A T (0,0))) (hW:Below w.heap.size w W0) (hg:W0.grownBy w' ev.ownBlock) (qj:ev.ownBlock≠some sb) :
  (w'.setCell ⟨sb,o,none⟩ nv).heap[sb]?=some (.cells (A.setIfInBounds o nv) T (0,0))/\(∀ k,k < w.heap.size->k≠sb->ev.ownBlock≠some k->(w'.setCell ⟨sb,o,none⟩ nv).heap[k]?=w.heap[k]?)/\w.heap.size<=(w'.setCell ⟨sb,o,none⟩ nv).heap.size/\(w'.setCell ⟨sb,o,none⟩ nv).os=w.os/\(w'.setCell ⟨sb,o,none⟩ nv).tape=w.tape/\(w'.setCell ⟨sb,o,none⟩ nv).output=w.output:=by
 have hl:=af hy
 have yW:W0.heap[sb]?=some (.cells A T (0,0)):=by rw [hW.block sb hl];exact hy
 have yw:=cE hg yW qj
 refine ⟨ay yw o _,fun k hk hks hke=>?_,?_,hg.os.trans hW.os,hg.tape.trans hW.tape,hg.output.trans hW.output⟩
 ·rw [ak _ _ (by simpa using hks),hg.block k (by have:=hW.size;omega) (fun e=>hke e.symm),hW.block k hk]
 ·have:=hW.size;have:=hg.size;simp only [World.setCell,Array.size_modify];omega
structure V4 (w0:World) (sb q:Nat) (n0:NR) (wr:World) (ev:Value) (k:Nat):Prop where
 b:Below sb w0 wr
 y:wr.heap[sb]?=some (.cells #[.slice none 0 0,.slice none 0 0,ev] 130 (0,0))
 n:wr.heap[q]?=some (bU n0)
 r:wr.ownsRow 0 3 1 ev k (cF (List.range k))
 e:∀ g,ev.ownBlock=some g->sb < g/\g≠q
 sq:sb < q
theorem V4.add {w0 wr W0 w':World} {sb q:Nat} {n0:NR} {ev:Value} {k g cap:Nat} (h:V4 w0 sb q n0 wr ev k) (hW:Below wr.heap.size wr W0) (hg:W0.grownBy w' ev.ownBlock)
  (hown:w'.ownsRow 0 3 1 (.slice (some ⟨g,0,none⟩) (k+1) cap) (k+1) (cF (List.range k)++[.int .i64 k])) (ik:ev.ownBlock=some g\/W0.heap.size<=g) :
  V4 w0 sb q n0 (w'.setCell ⟨sb,2,none⟩ (.slice (some ⟨g,0,none⟩) (k+1) cap)) (.slice (some ⟨g,0,none⟩) (k+1) cap) (k+1):=by
 have hsl:=af h.y
 have V5:=af h.n
 have A2:=hW.size
 obtain ⟨h1,h2,h3,h4,h5,h6⟩:=LN (o:=2) (nv:=.slice (some ⟨g,0,none⟩) (k+1) cap) h.y hW hg (fun e=>by have:=(h.e _ e).1;omega)
 have hgs:sb < g/\g≠q:=by
  rcases ik with e | e
  ·exact h.e g e
  ·exact ⟨by omega,by omega⟩
 have hsq:=h.sq
 have hbs:=h.b.size
 refine ⟨⟨h4.trans h.b.os,h5.trans h.b.tape,h6.trans h.b.output,by omega,fun j hj=>?_⟩,h1,?_,?_,fun j hj=>?_,hsq⟩
 ·rw [h2 j (by omega) (by omega) (fun e=>by have:=(h.e j e).1;omega)];exact h.b.block j hj
 ·rw [h2 q V5 (by omega) (fun e=>(h.e q e).2 rfl)];exact h.n
 ·rw [List.range_succ]
  unfold cF at hown ⊢
  rw [List.map_append]
  exact ax hown (fun j hj=>ak _ _ (by simp only [Value.ownBlock,Option.some.injEq] at hj;subst hj;simp only;omega))
 ·simp only [Value.ownBlock,Option.some.injEq] at hj;subst hj;exact hgs
structure EU (w0:World) (sb g cap B:Nat) (wr:World) (pv tv:Value) (tb:List TP) (K E:List Nat):Prop where
 b:Below sb w0 wr
 c:fJ sb 0 #[pv,tv,.slice (some ⟨g,0,none⟩) B cap] 130 wr pv tv tb K
 r:wr.ownsRow 0 3 1 (.slice (some ⟨g,0,none⟩) B cap) B (cF E)
 gs:sb < g
 pg:pv.ownBlock≠some g
 tg:tv.ownBlock≠some g
 pb:∀ j,pv.ownBlock=some j->sb < j
 ZH:∀ j,tv.ownBlock=some j->sb < j
theorem EU.below {w0 wr wr':World} {sb g cap B:Nat} {pv tv:Value} {tb:List TP} {K E:List Nat} (h:EU w0 sb g cap B wr pv tv tb K E) (hb:Below wr.heap.size wr wr'):EU w0 sb g cap B wr' pv tv tb K E :=
 ⟨h.b.trans (hb.mono (Nat.le_of_lt (af h.c.y))),h.c.below hb,aB h.r hb,h.gs,h.pg,h.tg,h.pb,h.ZH⟩
theorem EU.add {w0 wr wr':World} {sb g cap B:Nat} {pv tv mO pY:Value} {tb tb2:List TP} {K K2 E:List Nat} (h:EU w0 sb g cap B wr pv tv tb K E) (hf:uB sb wr wr' pv tv mO pY) (hc:fJ sb 0 #[mO,pY,.slice (some ⟨g,0,none⟩) B cap] 130 wr' mO pY tb2 K2):EU w0 sb g cap B wr' mO pY tb2 K2 E:=by
 have hgl:g < wr.heap.size:=(h.r.lt g rfl).2
 have hgs:=h.gs
 have hsl:=af h.c.y
 have hbs:=h.b.size
 refine ⟨⟨hf.os.trans h.b.os,hf.tape.trans h.b.tape,hf.output.trans h.b.output,by have:=hf.size;omega,fun k hk=>?_⟩,hc,ax h.r (fun k hk=>?_),hgs,fun e=>?_,fun e=>?_,fun j hj=>?_,fun j hj=>?_⟩
 ·rw [hf.blk k (by omega) (by omega) (fun e=>by have:=h.pb k e;omega) (fun e=>by have:=h.ZH k e;omega)];exact h.b.block k hk
 ·simp only [Value.ownBlock,Option.some.injEq] at hk
  subst hk
  exact hf.blk g hgl (by omega) h.pg h.tg
 ·rcases hf.p g e with e | e
  ·exact h.pg e
  ·omega
 ·rcases hf.t g e with e | e
  ·exact h.tg e
  ·omega
 ·rcases hf.p j hj with e | e
  ·exact h.pb j e
  ·omega
 ·rcases hf.t j hj with e | e
  ·exact h.ZH j e
  ·omega
theorem EU.ZI {w0 wr wr':World} {sb g cap B:Nat} {pv tv:Value} {tb:List TP} {K E E':List Nat} (h:EU w0 sb g cap B wr pv tv tb K E) (hf:yS g wr wr') (hr:wr'.ownsRow 0 3 1 (.slice (some ⟨g,0,none⟩) B cap) B (cF E')):EU w0 sb g cap B wr' pv tv tb K E':=by
 have hgs:=h.gs
 have hsl:=af h.c.y
 have hbs:=h.b.size
 refine ⟨⟨hf.os.trans h.b.os,hf.tape.trans h.b.tape,hf.output.trans h.b.output,by have:=hf.size;omega,fun k hk=>?_⟩,?_,hr,hgs,h.pg,h.tg,h.pb,h.ZH⟩
 ·rw [hf.blk k (by omega) (by omega)];exact h.b.block k hk
 ·exact ⟨by rw [hf.blk sb hsl (by omega)];exact h.c.y,h.c.a,h.c.b,ax h.c.p (fun k hk=>hf.blk k (h.c.p.lt k hk).2 (fun e=>h.pg (by rw [hk,e]))),ax h.c.t (fun k hk=>hf.blk k (h.c.t.lt k hk).2 (fun e=>h.tg (by rw [hk,e]))),h.c.py,h.c.ty,h.c.pt⟩
def ZJ (B:Nat) (tb:List TP):Prop:=∀ j,(fD tb j).r < B
theorem PX (tb:List TP) (x:TP) (j:Nat):fD (tb++[x]) j=fD tb j\/fD (tb++[x]) j=x:=by
 unfold fD
 split
 ·exact Or.inl rfl
 ·by_cases h:j - 1 < tb.length
  ·rw [List.getElem?_append_left h];exact Or.inl rfl
  ·rw [List.getElem?_append_right (by omega)]
   by_cases h2:j - 1 - tb.length=0
   ·rw [h2];exact Or.inr rfl
   ·rw [List.getElem?_eq_none (by simp;omega),List.getElem?_eq_none (by omega)];exact Or.inl rfl
theorem WY {B:Nat} {tb:List TP} (h:ZJ B tb) (K:List Nat) (n:NR) (r:Nat) (hr:r < B):ZJ B (ic tb K n r).2:=by
 have hp:∀ a b,ZJ B (dh tb r a b).2:=fun a b=>by
  unfold dh
  split
  ·exact h
  ·intro j
   simp only
   rcases PX tb ⟨r,a,b,1+(fD tb a).sz+(fD tb b).sz⟩ j with e | e
   ·rw [e];exact h j
   ·rw [e];exact hr
 unfold ic
 repeat' split
 all_goals first | exact h | exact hp _ _
structure Jj (fb:Nat) (w:World) (nv ov pv tv:Value) (tb:List TP) (K:List Nat) (ns:List NR) (op:List Int):Prop where
 c:fJ fb 2 #[nv,ov,pv,tv] 135 w pv tv tb K
 t:bg w nv ov ns op
theorem Jj.below {fb:Nat} {w w':World} {nv ov pv tv:Value} {tb:List TP} {K:List Nat} {ns:List NR} {op:List Int} (h:Jj fb w nv ov pv tv tb K ns op) (hb:Below w.heap.size w w'):Jj fb w' nv ov pv tv tb K ns op:=⟨h.c.below hb,h.t.below hb⟩
theorem qo (fb:Nat) (w:World) (nv ov pv tv:Value) (tb:List TP) (K:List Nat) (ns:List NR) (op:List Int) (D:List Ty) (T:List Ty) (h:Jj fb w nv ov pv tv tb K ns op) (hR:Rel tb D K T) (hl:tb.length<=9000) (hK:K.length<=9000) (i rg:Nat) (hi:i<=9000) :
  Calls Tryz.prog 95 #[ptr fb,.int .i64 i,.int .i64 rg] w fun v w'=>v=.returned (.bool ((ai T i).has rg))/\Below w.heap.size w w':=by
 obtain ⟨k1,k2,k3⟩:=hR.known i
 have WZ:=gN w fb 2 tv K i h.c.c1 h.c.t hK (by omega)
 have hme:=qi fb 2 pv tb hl hR.low rg (tb.length+1) (au K i) (by omega) (by omega) w h.c.c0 h.c.p
 rw [vB hR rg _ _ (by omega) k2,<- k1] at hme
 have HOF:Hid _:=WZ
 have PR:Hid _:=hme
 have hfl:=af h.c.y
 generalize au K i=kk at *
 generalize (ai T i).has rg=mm at *
 clear WZ hme h hR k1 k2 k3
 show Calls _ _ #[Value.pointer (some ⟨fb,0,none⟩),_,_] w _
 go_enter Tryz.func95,Tryz.ntmps95
 go_wp2_with fail
 refine Calls.mono HOF.out ?_
 rintro _ _ ⟨rfl,rfl⟩
 go_wp2_with fail
 refine Calls.mono PR.out ?_
 rintro _ w2 ⟨rfl,hb2⟩
 have dU:Hid _:=hb2
 clear hb2
 go_wp2
 go_ret
 exact ⟨rfl,dU.out⟩
def dI (T:List Ty) (rg:Nat):List NR->Nat->Nat->Nat->Nat × Nat
 | [],_,a,b=>(a,b)
 | n::r,i,a,b=>if (ai T i).has rg=true then dI T rg r (i+1) (if n.at_ < a then n.at_ else a) (if b < n.aR then n.aR else b) else dI T rg r (i+1) a b
def eQ (T:List Ty) (rg a b:Nat):List NR->Nat->Int
 | [],_=>-1
 | n::r,i=>if n.at_<=a/\b<=n.aR/\(ai T i).has rg=false then (i:Int) else eQ T rg a b r (i+1)
theorem LO (fb:Nat) (w:World) (x1:Option Addr) (n1 c1:Nat) (x2:Option Addr) (n2 c2:Nat) (pv tv:Value) (tb:List TP) (K:List Nat) (ns:List NR) (op:List Int) (D:List Ty) (T:List Ty) (h:Jj fb w (.slice x1 n1 c1) (.slice x2 n2 c2) pv tv tb K ns op) (hR:Rel tb D K T) (hl:tb.length<=9000) (hK:K.length<=9000) (hn:ns.length<=9000) (rg:Nat) (n0:NR) (h0:ns[ns.length - 1]?=some n0) :
  Calls Tryz.prog 94 #[ptr fb,.int .i64 rg] w fun v w'=>v=.returned (.tuple #[.int .i64 (dI T rg ns 0 n0.aR n0.at_).1,.int .i64 (dI T rg ns 0 n0.aR n0.at_).2])/\Below w.heap.size w w':=by
 obtain ⟨m,hm⟩:∃ m,m=ns.length:=⟨_,rfl⟩
 have mn:1<=m:=by have:=(List.getElem?_eq_some_iff.1 h0).1;omega
 have hfl:=af h.c.y
 have V6:∀ W',Below w.heap.size w W'->W'.cell? ⟨fb,0,none⟩=some (.slice x1 n1 c1)/\W'.cell? ⟨fb,1,none⟩=some (.slice x2 n2 c2)/\fb < W'.heap.size:=fun W' hb=>by
  have:=(h.below hb).c.y
  exact ⟨by rw [aa this];rfl,by rw [aa this];rfl,af this⟩
 have W6:∀ W',Below w.heap.size w W'->Calls Tryz.prog 55 #[.agg #[.slice x1 n1 c1,.slice x2 n2 c2]] W' fun v w'=>v=.returned (.int .i64 ((m - 1:Nat):Int))/\Below w.heap.size w w'/\Below W'.heap.size W' w':=fun W' hb=>by
  refine (sr W' _ _ ns op (h.below hb).t hn).mono ?_
  rintro _ w' ⟨rfl,hb'⟩
  exact ⟨by congr 2;omega,hb.trans (hb'.mono hb.size),hb'⟩
 have Jk:∀ W',Below w.heap.size w W'->∀ (k:Nat) (n:NR),ns[k]?=some n->Calls Tryz.prog 61 #[.agg #[.slice x1 n1 c1,.slice x2 n2 c2],.int .i64 k] W' fun v w'=>v=.returned (aI n)/\Below w.heap.size w w'/\Below W'.heap.size W' w':=fun W' hb k n hk=>by
  refine (ew W' _ _ ns op (h.below hb).t k n hk hn).mono ?_
  rintro _ w' ⟨rfl,hb'⟩
  exact ⟨rfl,hb.trans (hb'.mono hb.size),hb'⟩
 have Tw:=fun W' hb=>Jk W' hb (m - 1) n0 (by rw [hm];exact h0)
 have R4:∀ W',Below w.heap.size w W'->Calls Tryz.prog 60 #[.agg #[.slice x1 n1 c1,.slice x2 n2 c2]] W' fun v w'=>v=.returned (.int .i64 m)/\Below w.heap.size w w':=fun W' hb=>by
  have:=gJ W' _ _ ns op (h.below hb).t
  rw [<- hm] at this
  refine this.mono ?_
  rintro _ w' ⟨rfl,hb'⟩
  exact ⟨rfl,hb.trans (hb'.mono hb.size)⟩
 have W8:∀ W',Below w.heap.size w W'->∀ i:Nat,i < m->Calls Tryz.prog 95 #[.pointer (some ⟨fb,0,none⟩),.int .i64 i,.int .i64 rg] W' fun v w'=>v=.returned (.bool ((ai T i).has rg))/\Below w.heap.size w w':=fun W' hb i hi=>by
  refine (qo fb W' _ _ pv tv tb K ns op D T (h.below hb) hR hl hK i rg (by omega)).mono ?_
  rintro _ w' ⟨rfl,hb'⟩
  exact ⟨rfl,hb.trans (hb'.mono hb.size)⟩
 obtain ⟨R,Tx⟩:∃ R,R=dI T rg ns 0 n0.aR n0.at_:=⟨_,rfl⟩
 rw [<- Tx]
 unfold aI at Tw Jk
 have Tz:Hid _:=V6
 have K3:Hid _:=W6
 have qQ:Hid _:=Jk
 have W9:Hid _:=Tw
 have K4:Hid _:=R4
 have PR:Hid _:=W8
 have HM:Hid _:=hm
 have R5:Hid _:=Tx
 obtain ⟨b0,b1,bl⟩:=V6 w (Below.refl _ _)
 rw [<- hm] at hn
 clear V6 W6 Jk Tw R4 W8 h hR hm Tx h0
 show Calls _ _ #[Value.pointer (some ⟨fb,0,none⟩),_] w _
 go_enter Tryz.func94,Tryz.ntmps94
 go_upto_region 1 with fail
 go_cut [6] from 11 to 20 (fun t6 wx=>∃ q,t6=.pointer (some ⟨q,0,none⟩)/\wx.heap[q]?=some (bU n0)/\w.heap.size<=q/\Below w.heap.size w wx)
 case first =>
  go_region_law (first
   | (refine kR rfl 55 #[.agg #[.slice x1 n1 c1,.slice x2 n2 c2]] ?_ ?_
      ·go_simp
      refine Calls.mono (K3.out _ ?_) ?_
      ·repeat (first | with_reducible exact Below.refl _ _ | with_reducible refine cB ?_ _ | with_reducible refine tH ?_ | with_reducible refine fU ?_)
      rintro e w2 ⟨rfl,hb2,TA⟩
      obtain ⟨b0,b1,bl⟩:=Tz.out _ hb2
      have LP:=hb2.size
      try (have hz:w2.heap[w.heap.size]?=some (.cells nz 108 (0,0)):=(TA.block _ (by simp)).trans (aj _ _))
      refine ⟨_,rfl,?_⟩)
   | (refine kR rfl 61 #[.agg #[.slice x1 n1 c1,.slice x2 n2 c2],.int .i64 ((m - 1:Nat):Int)] ?_ ?_
      ·go_simp
      refine Calls.mono (W9.out _ ?_) ?_
      ·repeat (first | with_reducible exact Below.refl _ _ | with_reducible exact hb2 | with_reducible refine cB ?_ _ | with_reducible refine tH ?_ | with_reducible refine fU ?_)
      rintro e w3 ⟨rfl,hb3,LQ⟩
      try (have PY:w3.heap[w2.heap.size]?=some (.cells nz 108 (0,0)):=(LQ.block _ (by simp)).trans (aj _ _))
      try (have PZ:w3.heap[w.heap.size]?=some (.cells nz 108 (0,0)):=(LQ.block _ (af hz)).trans hz)
      try (obtain ⟨z0,z1,z2,z3,z4,z5,z6,z7,z8,z9⟩:=su PY;obtain ⟨f0,f1,f2,f3,f4,f5,f6,f7,f8,f9⟩:=vC PY;have hzl:=af PY)
      try (obtain ⟨z0,z1,z2,z3,z4,z5,z6,z7,z8,z9⟩:=su PZ;obtain ⟨f0,f1,f2,f3,f4,f5,f6,f7,f8,f9⟩:=vC PZ;have hzl:=af PZ)
      refine ⟨_,rfl,?_⟩))
  all_goals (go_wp2_with fail;go_meet)
  all_goals first
   | (have hE:=A9 (.int .i64 n0.form) (.int .i64 n0.at_) (.int .i64 n0.aR) (.int .i64 n0.num) (.string (bs n0.word)) (.int .i64 n0.region) (.int .i64 n0.source) (.int .i64 n0.p0) (.int .i64 n0.p1) (.int .i64 n0.p2) hb3 LP PY;exact ⟨_,rfl,hE.1,LP,hE.2⟩)
   | (have hE:=A9 (.int .i64 n0.form) (.int .i64 n0.at_) (.int .i64 n0.aR) (.int .i64 n0.num) (.string (bs n0.word)) (.int .i64 n0.region) (.int .i64 n0.source) (.int .i64 n0.p0) (.int .i64 n0.p1) (.int .i64 n0.p2) hb3 (Nat.le_refl _) PZ;exact ⟨_,rfl,hE.1,Nat.le_refl _,hE.2⟩)
   | exact ⟨_,rfl,aj _ _,hb3.size,cB hb3 _⟩
   | skip
 case rest =>
  obtain ⟨q,rfl,hq,hsq,hbc⟩:=hcut
  obtain ⟨d0,d1,d2,_⟩:=aC hq
  have V5:=af hq
  have P3:Hid _:=hbc
  clear hq hbc b0 b1 K3 W9
  go_wp2
  go_loopw [7,8,9,10] (fun fa be i _ wr=>∃ (k a b:Nat),k<=m/\i=.int .i64 k/\fa=.int .i64 a/\be=.int .i64 b/\Hid (dI T rg ns 0 n0.aR n0.at_=dI T rg (ns.drop k) k a b)/\Below w.heap.size w wr) (fun _ _ i _ _=>m - (intOf i).toNat)
  case atStart=>exact ⟨0,n0.aR,n0.at_,Nat.zero_le _,rfl,rfl,rfl,(rfl:dI T rg ns 0 n0.aR n0.at_=dI T rg (ns.drop 0) 0 n0.aR n0.at_),P3.out⟩
  case round =>
   obtain ⟨k,a,b,hk,rfl,rfl,rfl,HF,dF⟩:=hrel
   obtain ⟨b0,b1,bl⟩:=Tz.out _ dF
   have il:=K4.out _ dF
   by_cases hlt:k < m
   ·have hkl:k < ns.length:=by have:=HM.out;omega
    obtain ⟨n,hn⟩:∃ n,ns[k]?=some n:=⟨ns[k],List.getElem?_eq_getElem hkl⟩
    have ml:ns.drop k=n::ns.drop (k+1):=by
     rw [List.drop_eq_getElem_cons hkl];rw [List.getElem?_eq_getElem hkl] at hn;simp only [Option.some.injEq] at hn;rw [hn]
    have hst:=HF.out
    rw [ml] at hst
    simp only [dI] at hst
    have jf:Hid _:=hst
    have HN:Hid _:=hn
    clear hst ml hn HF dF hkl
    go_wp2_with fail
    refine il.mono ?_
    rintro _ w1 ⟨rfl,hb1⟩
    have hme:=PR.out w1 hb1 k hlt
    clear il b0 b1 bl
    obtain ⟨b0,b1,bl⟩:=Tz.out _ hb1
    have dG:Hid _:=hb1
    clear hb1
    go_wp2_with fail
    refine hme.mono ?_
    rintro _ w2 ⟨rfl,hb2⟩
    clear hme b0 b1 bl
    obtain ⟨b0,b1,bl⟩:=Tz.out _ hb2
    have hno:=qQ.out w2 hb2 k n HN.out
    have dU:Hid _:=hb2
    clear hb2
    cases hmm:(ai T (k:Int)).has rg with
    | false =>
     have hst:=jf.out
     rw [hmm,if_neg (by decide)] at hst
     have eA:Hid _:=hst
     clear hst jf hno hmm
     go_wp2
     go_roundw
     case rel=>exact ⟨k+1,a,b,by omega,by go_num,rfl,rfl,eA.out,dU.out⟩
     case measure=>simp [intOf];omega
    | true =>
     have hst:=jf.out
     rw [hmm,if_pos rfl] at hst
     have eA:Hid _:=hst
     clear hst jf hmm
     go_wp2_with fail
     refine hno.mono ?_
     rintro _ w3 ⟨rfl,hb3,_⟩
     have iV:Hid _:=cB hb3 (bU n)
     unfold bU za at iV
     clear hb3 hno
     by_cases ha:n.at_ < a
     ·have qa:(n.at_:Int) < (a:Int):=by omega
      by_cases hb:b < n.aR
      ·have qb:(b:Int) < (n.aR:Int):=by omega
       have hst:=eA.out
       rw [if_pos ha,if_pos hb] at hst
       have wE:Hid _:=hst
       clear hst eA ha hb
       go_wp2
       go_roundw
       case rel=>exact ⟨k+1,n.at_,n.aR,by omega,by go_num,rfl,rfl,wE.out,iV.out⟩
       case measure=>simp [intOf];omega
      ·have qb:¬ (b:Int) < (n.aR:Int):=by omega
       have hst:=eA.out
       rw [if_pos ha,if_neg hb] at hst
       have wE:Hid _:=hst
       clear hst eA ha hb
       go_wp2
       go_roundw
       case rel=>exact ⟨k+1,n.at_,b,by omega,by go_num,rfl,rfl,wE.out,iV.out⟩
       case measure=>simp [intOf];omega
     ·have qa:¬ (n.at_:Int) < (a:Int):=by omega
      by_cases hb:b < n.aR
      ·have qb:(b:Int) < (n.aR:Int):=by omega
       have hst:=eA.out
       rw [if_neg ha,if_pos hb] at hst
       have wE:Hid _:=hst
       clear hst eA ha hb
       go_wp2
       go_roundw
       case rel=>exact ⟨k+1,a,n.aR,by omega,by go_num,rfl,rfl,wE.out,iV.out⟩
       case measure=>simp [intOf];omega
      ·have qb:¬ (b:Int) < (n.aR:Int):=by omega
       have hst:=eA.out
       rw [if_neg ha,if_neg hb] at hst
       have wE:Hid _:=hst
       clear hst eA ha hb
       go_wp2
       go_roundw
       case rel=>exact ⟨k+1,a,b,by omega,by go_num,rfl,rfl,wE.out,iV.out⟩
       case measure=>simp [intOf];omega
   ·have V2:Hid (R=(a,b)):=by
     have hd:ns.drop k=[]:=List.drop_eq_nil_of_le (by have:=HM.out;omega)
     have hst:=HF.out
     rw [hd] at hst
     rw [R5.out,hst];exact rfl
    have iA:Hid _:=dF
    clear dF HF
    go_wp2_with fail
    refine il.mono ?_
    rintro _ w1 ⟨rfl,hb1⟩
    have dG:Hid _:=hb1
    clear hb1 il
    go_wp2
    refine bodyPost_ret (v:=.tuple #[.int .i64 a,.int .i64 b]) (by simp [results,Tryz.results94,go_sem]) rfl ⟨by rw [V2.out],dG.out⟩
end Go.Proofs.YtpicaknklgccoabGreatDoor
