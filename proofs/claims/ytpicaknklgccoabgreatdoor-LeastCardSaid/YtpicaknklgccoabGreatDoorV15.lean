import Derived.Test.YtpicaknklgccoabGreatDoorV14
import Derived.Shelf.Lay
import Derived.Shelf.LaysM
import Derived.Shelf.Strconv.Itoa3
import Derived.Lib.AppendIntMem
namespace Go.Proofs.YtpicaknklgccoabGreatDoor
def cI (E:List Nat):Ty->Ty->List Nat
 | .p r a b,.p s c d=>if Ty.p r a b=Ty.p s c d then E else cI (cI (je E r s) a c) b d
 | _,_=>E
theorem bY:∀ (a b:Ty) (E:List Nat),(cI E a b).length=E.length
 | .n,_,_=>by simp[cI]
 | .p _ _ _,.n,_=>by simp[cI]
 | .p r a b,.p s c d,E=>by
  simp only[cI]
  split
  ·rfl
  ·rw[bY b d,bY a c,dB]
theorem xN {tb:List TP} {D:List Ty} {K:List Nat} {T:List Ty} (h:Rel tb D K T):∀ (f:Nat) (E:List Nat) (x y:Nat),x<f->x<=tb.length->y<=tb.length->mT tb f E x y=cI E (cR D x) (cR D y)
 | 0,_,_,_,h1,_,_=>by omega
 | f+1,E,x,y,h1,hx,hy=>by
  simp only[mT]
  by_cases e:x=y
  ·rw[if_pos (Or.inl e),e]
   cases cR D y with
   | n=>rfl
   | p r a b=>simp[cI]
  ·by_cases x0:x=0
   ·rw[if_pos (Or.inr (Or.inl x0)),(h.num x hx).2 x0];rfl
   ·by_cases y0:y=0
    ·rw[if_pos (Or.inr (Or.inr y0)),(h.num y hy).2 y0]
     cases cR D x <;> rfl
    ·rw[if_neg (by omega)]
     obtain⟨p,_,p2,p3,p4,p5⟩:=h.pair x x0 hx;obtain⟨q,_,q2,q3,q4,q5⟩:=h.pair y y0 hy
     have hne:cR D x≠cR D y:=λe'=>e ((h.U6 hx hy).1 e')
     rw[p5,q5,xN h f _ p.a q.a (by omega) (by omega) (by omega),xN h f _ p.b q.b (by omega) (by omega) (by omega)];rw[p2,q2] at hne ⊢;simp only[cI];rw[if_neg hne]
def cC (f:Nat->Nat):Ty->Ty
 | .n=>.n
 | .p r a b=>.p (f r) (cC f a) (cC f b)
theorem DV (f:Nat->Nat) (t:Ty):cC f (GX t)=GX (cC f t):=by cases t <;> rfl
theorem DW (f:Nat->Nat) (t:Ty):cC f (GY t)=GY (cC f t):=by cases t <;> rfl
theorem iJ (f:Nat->Nat) (T:List Ty) (i:Int):ai (T.map (cC f)) i=cC f (ai T i):=by
 unfold ai
 split
 ·rw[List.getElem?_map];cases T[i.toNat]? <;> rfl
 ·rfl
def gT (c c':Nat->Nat):Prop:=∀ i j,c i=c j->c' i=c' j
theorem gT.refl (c:Nat->Nat):gT c c:=λ_ _ h=>h
theorem gT.trans {a b c:Nat->Nat} (h:gT a b) (g:gT b c):gT a c:=λi j e=>g i j (h i j e)
theorem gT.map {c c':Nat->Nat} (h:gT c c'):∀ (a b:Ty),cC c a=cC c b->cC c' a=cC c' b
 | .n,.n,_=>rfl
 | .n,.p _ _ _,e=>by simp[cC] at e
 | .p _ _ _,.n,e=>by simp[cC] at e
 | .p r a b,.p s x y,e=>by
  simp only[cC,Ty.p.injEq] at e ⊢;exact⟨h r s e.1,h.map a x e.2.1,h.map b y e.2.2⟩
def mB (n:Nat) (t:Ty):Prop:=∀ r∈t.u7,r<n
theorem mB.p {n r:Nat} {a b:Ty} (h:mB n (.p r a b)):r<n/\mB n a/\mB n b :=
 ⟨h r (by simp[Ty.u7]),λx hx=>h x (by simp[Ty.u7,hx]),λx hx=>h x (by simp[Ty.u7,hx])⟩
theorem DX (E:List Nat) (x y:Nat) (hx:x<E.length) (hy:y<E.length):gT (aX E) (aX (je E x y)):=λi j h=>by
 rw[nA E x y hx hy,nA E x y hx hy];exact Kz _ x y h
theorem jl:∀ (a b:Ty) (E:List Nat),mB E.length a->mB E.length b->gT (aX E) (aX (cI E a b))
 | .n,_,_,_,_=>by simp only[cI];exact gT.refl _
 | .p _ _ _,.n,_,_,_=>by simp only[cI];exact gT.refl _
 | .p r a b,.p s c d,E,h1,h2=>by
  simp only[cI]
  split
  ·exact gT.refl _
  ·obtain⟨r1,r2,r3⟩:=h1.p
   obtain⟨s1,s2,s3⟩:=h2.p;refine (DX E r s r1 s1).trans ((jl a c _ ?_ ?_).trans (jl b d _ ?_ ?_))
   ·rw[dB];exact r2
   ·rw[dB];exact s2
   ·rw[bY,dB];exact r3
   ·rw[bY,dB];exact s3
theorem sG:∀ (a b:Ty) (E:List Nat),a.bare=b.bare->mB E.length a->mB E.length b->cC (aX (cI E a b)) a=cC (aX (cI E a b)) b
 | .n,.n,_,_,_,_=>rfl
 | .n,.p _ _ _,_,h,_,_=>by simp[Ty.bare] at h
 | .p _ _ _,.n,_,h,_,_=>by simp[Ty.bare] at h
 | .p r a b,.p s c d,E,h,h1,h2=>by
  simp only[Ty.bare,Ty.p.injEq,true_and] at h;simp only[cI]
  split
  ·rename_i e;rw[e]
  ·obtain⟨r1,r2,r3⟩:=h1.p
   obtain⟨s1,s2,s3⟩:=h2.p;have l1:=dB E r s;have l2:=bY a c (je E r s);have k1:=jl a c (je E r s) (by rw[l1];exact r2) (by rw[l1];exact s2);have k2:=jl b d (cI (je E r s) a c) (by rw[l2,l1];exact r3) (by rw[l2,l1];exact s3);have m1:=sG a c (je E r s) h.1 (by rw[l1];exact r2) (by rw[l1];exact s2);have m2:=sG b d (cI (je E r s) a c) h.2 (by rw[l2,l1];exact r3) (by rw[l2,l1];exact s3)
   have hj:aX (je E r s) r=aX (je E r s) s:=by rw[nA E r s r1 s1,nA E r s r1 s1];exact MP _ r s
   simp only[cC,Ty.p.injEq];exact⟨k2 r s (k1 r s hj),k2.map a c m1,m2⟩
def atR (n:NR):NR:={ n with region:=n.at_ }
def fo (n:NR) (r:Int):NR:={ n with region:=r }
def sH:List Ty->List Nat->List NR->List Nat
 | _,E,[]=>E
 | T,E,n::r=>sH (T++[cH T (atR n)]) (if n.form=7\/n.form=11 then cI E (ai (T++[cH T (atR n)]) n.p1) (ai (T++[cH T (atR n)]) n.p2) else E) r
theorem Jg:∀ (ns:List NR) (T:List Ty) (E:List Nat),(sH T E ns).length=E.length
 | [],_,_=>rfl
 | n::r,T,E=>by
  simp only[sH];rw[Jg r]
  split
  ·rw[bY]
  ·rfl
theorem fp {n:Nat} {T:List Ty} (h:∀ t∈T,mB n t) (i:Int):mB n (ai T i):=by
 unfold ai
 split
 ·cases e:T[i.toNat]? with
  | none=>intro r hr;simp[Ty.u7] at hr
  | some t=>exact h t (List.mem_of_getElem? e)
 ·intro r hr;simp[Ty.u7] at hr
theorem xO {n:Nat} {T:List Ty} (h:∀ t∈T,mB n t) (m:NR) (hm:m.region.toNat<n):mB n (cH T m):=by
 have h0:=fp h m.p0;have h1:=fp h m.p1;have h2:=fp h m.source
 have hn:mB n .n:=λr hr=>by simp[Ty.u7] at hr
 unfold cH
 split
 ·exact h2
 split
 ·exact h0
 split
 ·exact h1
 split
 ·exact h1
 split
 ·exact h1
 split
 ·intro r hr
  simp only[Ty.u7,List.mem_cons,List.mem_append] at hr
  rcases hr with hr | hr | hr
  ·omega
  ·exact h0 r hr
  ·exact h1 r hr
 split
 ·cases e:ai T m.p0 with
  | n=>exact hn
  | p r a b=>rw[e] at h0;exact h0.p.2.1
 split
 ·cases e:ai T m.p0 with
  | n=>exact hn
  | p r a b=>rw[e] at h0;exact h0.p.2.2
 ·exact hn
def u9:List Ty->List NR->Prop
 | _,[]=>True
 | T,n::r=>(n.form=7\/n.form=11->(ai (T++[cH T n]) n.p1).bare=(ai (T++[cH T n]) n.p2).bare)/\u9 (T++[cH T n]) r
def AG (c:Nat->Nat):List Ty->List NR->Prop
 | _,[]=>True
 | T,n::r=>(n.form=7\/n.form=11->cC c (ai (T++[cH T n]) n.p1)=cC c (ai (T++[cH T n]) n.p2))/\AG c (T++[cH T n]) r
theorem sJ:∀ (ns:List NR) (T:List Ty) (E:List Nat),(∀ t∈T,mB E.length t)->(∀ n∈ns,n.at_<E.length)->gT (aX E) (aX (sH T E ns))
 | [],_,_,_,_=>gT.refl _
 | n::r,T,E,h,hn=>by
  have hb:∀ t∈T++[cH T (atR n)],mB E.length t:=λt ht=>by
   rcases List.mem_append.1 ht with ht | ht
   ·exact h t ht
   ·simp only[List.mem_singleton] at ht;subst ht;exact xO h _ (by simpa [atR] using hn n (by simp))
  simp only[sH]
  split
  ·refine (jl _ _ E (fp hb _) (fp hb _)).trans (sJ r _ _ ?_ ?_)
   ·rw[bY];exact hb
   ·rw[bY];exact λm hm=>hn m (by simp[hm])
  ·exact sJ r _ _ hb (λm hm=>hn m (by simp[hm]))
theorem Cn:∀ (ns:List NR) (T:List Ty) (E:List Nat),(∀ t∈T,mB E.length t)->(∀ n∈ns,n.at_<E.length)->u9 T (ns.map atR)->AG (aX (sH T E ns)) T (ns.map atR)
 | [],_,_,_,_,_=>trivial
 | n::r,T,E,h,hn,ha=>by
  have hb:∀ t∈T++[cH T (atR n)],mB E.length t:=λt ht=>by
   rcases List.mem_append.1 ht with ht | ht
   ·exact h t ht
   ·simp only[List.mem_singleton] at ht;subst ht;exact xO h _ (by simpa [atR] using hn n (by simp))
  simp only[List.map_cons,u9] at ha;simp only[List.map_cons,AG,sH];have hf:(atR n).form=n.form:=rfl
  by_cases hc:n.form=7\/n.form=11
  ·rw[if_pos hc]
   have hb2:∀ t∈T++[cH T (atR n)],mB (cI E (ai (T++[cH T (atR n)]) n.p1) (ai (T++[cH T (atR n)]) n.p2)).length t:=by rw[bY];exact hb
   have eZ:∀ m∈r,m.at_<(cI E (ai (T++[cH T (atR n)]) n.p1) (ai (T++[cH T (atR n)]) n.p2)).length:=by rw[bY];exact λm hm=>hn m (by simp[hm])
   refine⟨λ_=>?_,Cn r _ _ hb2 eZ ha.2⟩;exact (sJ r _ _ hb2 eZ).map _ _ (sG _ _ E (ha.1 hc) (fp hb _) (fp hb _))
  ·rw[if_neg hc]
   exact⟨λh=>absurd h hc,Cn r _ _ hb (λm hm=>hn m (by simp[hm])) ha.2⟩
theorem Jh (f:Nat->Nat) (T:List Ty) (n m:NR) (hm:m={ n with region:=m.region }) (hf:n.form=4->m.region.toNat=f n.region.toNat):cH (T.map (cC f)) m=cC f (cH T n):=by
 have e1:m.form=n.form:=by rw[hm]
 have e2:m.source=n.source:=by rw[hm]
 have e3:m.p0=n.p0:=by rw[hm]
 have e4:m.p1=n.p1:=by rw[hm]
 unfold cH;rw[e1,e2,e3,e4,iJ,iJ,iJ,<- DV,<- DW]
 by_cases h4:n.form=4
 ·rw[hf h4];simp[h4,cC]
 ·simp only[h4,if_false]
  repeat' split
  all_goals rfl
open Go.RowKit
open Go.Lib (decDigits)
def bF (k:Kw) (nm:List UInt8) (i:Nat) (x:List UInt8):List UInt8:=(if (k=.aP/\i=0)\/(k=.loop/\i=1) then 32::nm else [])++(32::x)
def bh (k:Kw) (nm:List UInt8):Nat->List (List UInt8)->List UInt8
 | _,[]=>[]
 | i,x::r=>bF k nm i x++bh k nm (i+1) r
theorem sK (k:Kw) (nm:List UInt8) (x:List UInt8):∀ (l:List (List UInt8)) (i:Nat),bh k nm i (l++[x])=bh k nm i l++bF k nm (i+l.length) x
 | [],i=>by simp[bh]
 | y::r,i=>by
  simp only[List.cons_append,bh,sK k nm x r (i+1),List.append_assoc,List.length_cons];rw[show i+1+r.length=i+(r.length+1) from by omega]
mutual
def PT.lO:PT->List UInt8
 | .num _ s=>decDigits (ak s).toNat
 | .name _ s=>s
 | .node _ k nm _ kids=>if k=.new then (jH kids).headD [] else 40::(k.bytes++(bh k nm 0 (jH kids)++[41]))
def jH:List PT->List (List UInt8)
 | []=>[]
 | t::r=>t.lO::jH r
end
theorem DY:∀ ts:List PT,(jH ts).length=ts.length
 | []=>rfl
 | _::r=>by simp[jH,DY r]
mutual
def PT.bQ:PT->Prop
 | .num _ s=>0<=ak s/\ak s<=9999
 | .name _ s=>s.length<=9000
 | .node _ _ nm _ kids=>nm.length<=9000/\bH kids
def bH:List PT->Prop
 | []=>True
 | t::r=>t.bQ/\bH r
end
theorem lP (u:Nat) (h:u<=9999):(decDigits u).length<=4:=by
 rw[Go.Lib.decDigits];split
 ·simp
 ·rw[Go.Lib.decDigits];split
  ·simp
  ·rw[Go.Lib.decDigits];split
   ·simp
   ·rw[Go.Lib.decDigits];split
    ·simp
    ·omega
theorem GZ (k:Kw) (nm:List UInt8) (i:Nat) (x:List UInt8) (h:nm.length<=9000):(bF k nm i x).length<=9002+x.length:=by
 unfold bF;split <;> simp <;> omega
theorem xP (lo hi:Int):∀ (l:List UInt8) (c:UInt8),c∈l.take (run lo hi l)->ll lo hi c=true
 | [],c,h=>by simp at h
 | d::r,c,h=>by
  simp only[run] at h
  split at h
  ·rename_i hd
   rw[List.take_succ_cons,List.mem_cons] at h
   rcases h with h | h
   ·rw[h];exact hd
   ·exact xP lo hi r c h
  ·simp at h
theorem xQ:∀ (l:List UInt8) (a:Int),(∀ c∈l,ll 48 57 c=true)->0<=a ->
  0<=l.foldl (λn c=>if c=35 then n else 10*n+(c.toNat:Int)-48) a/\l.foldl (λn c=>if c=35 then n else 10*n+(c.toNat:Int)-48) a<=(a+1)*((10 ^ l.length:Nat):Int)-1
 | [],a,_,h=>by simp;omega
 | c::r,a,hd,h=>by
  have hc:=hd c (by simp);simp only[ll,Bool.and_eq_true,decide_eq_true_eq] at hc
  have Co:c≠35:=by intro e;subst e;simp at hc
  have ih:=xQ r (10*a+(c.toNat:Int)-48) (λx hx=>hd x (by simp[hx])) (by omega);simp only[List.foldl_cons,if_neg Co,List.length_cons];refine⟨ih.1,Int.le_trans ih.2 ?_⟩
  have e:((10 ^ (r.length+1):Nat):Int)=10*((10 ^ r.length:Nat):Int):=by rw[Nat.pow_succ];omega
  rw[e];have hp:(0:Int)<=((10 ^ r.length:Nat):Int):=Int.natCast_nonneg _
  have h2:(10*a+(c.toNat:Int)-48+1)<=(a+1)*10:=by omega
  have h3:=Int.mul_le_mul_of_nonneg_right h2 hp;rw[Int.mul_assoc] at h3;omega
def mU (t:Tk):Prop:=(t.c=.num->0<=ak t.s/\ak t.s<=9999)/\(t.c=.Ak->t.s.length<=9000)
theorem Nh (l:List UInt8):((aN l).2=.num->0<=ak (l.take (aN l).1)/\ak (l.take (aN l).1)<=9999)/\((aN l).2=.Ak->(aN l).1<=9000):=by
 unfold aN
 split
 ·refine⟨λh=>?_,λh=>?_⟩
  ·simp only[eQ] at h
   split at h
   ·simp at h
   ·split at h <;> simp at h
  ·simp only[eQ] at h
   split at h
   ·simp at h
   ·split at h
    ·simp only;omega
    ·simp at h
 ·split
  ·refine⟨λh=>?_,λh=>?_⟩
   ·simp only at h
    split at h
    ·rename_i hn
     simp only[cL,Bool.and_eq_true,decide_eq_true_eq] at hn;have hf:=xQ (l.take (run 48 57 l)) 0 (λc hc=>xP 48 57 l c hc) (by omega);have hp:10 ^ (l.take (run 48 57 l)).length<=10 ^ 4:=Nat.pow_le_pow_right (by omega) hn.1.2;unfold ak;simp only;omega
    ·simp at h
   ·simp only at h
    split at h <;> simp at h
  ·split
   ·simp
   ·split
    ·refine⟨λh=>?_,λh=>?_⟩ <;> (simp only at h;split at h <;> simp at h)
    ·refine⟨λh=>?_,λ_=>by simp⟩
     simp only at h
     split at h
     ·simp at h
     ·split at h <;> simp at h
theorem fj (l:List UInt8):∀ t∈tokens l,mU t:=by
 intro t ht;obtain⟨l',_,hs,hc⟩:=tM _ _ _ t ht;have h:=Nh l';unfold mU;rw[hs,hc];exact⟨h.1,λe=>by have:=h.2 e;simp;omega⟩
mutual
theorem PE.bQ {ae:Bool}:∀ {l:List Tk} {e:PT} {r:List Tk},PE ae l e r->(∀ t∈l,mU t)->e.bQ/\∀ t∈r,mU t
 | _,_,_,.num (t:=t) h,ha=>⟨by simp only[PT.bQ];exact (ha t (by simp)).1 h,λx hx=>ha x (by simp[hx])⟩
 | _,_,_,.name (t:=t) h,ha=>⟨by simp only[PT.bQ];exact (ha t (by simp)).2 h,λx hx=>ha x (by simp[hx])⟩
 | _,_,_,.node _ _ _ h4,ha=>by
  have h:=PW.bQ h4 (λx hx=>ha x (by simp[hx]));exact⟨by simp only[PT.bQ];exact⟨h.1,h.2.1⟩,h.2.2⟩
theorem PW.bQ {ae:Bool}:∀ {ws:List Wt} {l:List Tk} {nm rg:List UInt8} {kids:List PT} {r:List Tk},PW ae ws l nm rg kids r->(∀ t∈l,mU t)->nm.length<=9000/\bH kids/\∀ t∈r,mU t
 | _,_,_,_,_,_,.nil,ha=>⟨by simp,by simp[bH],ha⟩
 | _,_,_,_,_,_,.close _ h1,ha=>PW.bQ h1 (λx hx=>ha x (by simp[hx]))
 | _,_,_,_,_,_,.name (t:=t) h h1,ha=>by
  have h':=PW.bQ h1 (λx hx=>ha x (by simp[hx]));exact⟨(ha t (by simp)).2 h,h'.2⟩
 | _,_,_,_,_,_,.region _ h1,ha=>PW.bQ h1 (λx hx=>ha x (by simp[hx]))
 | _,_,_,_,_,_,.e h0 h1,ha=>by
  have a:=PE.bQ h0 ha;have b:=PW.bQ h1 a.2;exact⟨b.1,by simp only[bH];exact⟨a.1,b.2.1⟩,b.2.2⟩
end
open Go.RowKit Go.Shelf Go.Sort
def pP (w0:World):Prop:=∀ (n:Nat) (w:World),n<=9999->Below w0.heap.size w0 w->Calls Tryz.prog 24 #[.int .i64 n] w λe w'=>e=.returned (.string (bs (decDigits n)))/\Below w.heap.size w w'
shelf_lay LaysM.n171 Nm 171 at Tryz as Tryz.Ni
theorem wV (w0:World) (htab:Lib.TabIs Tryz.prog w0 "internal/strconv.uint64pow10" .u64 Lib.pow10Tab):pP w0:=by
 intro n w hn hb;refine (Any.strconv_Itoa Tryz.Ni (n:Int) (by omega) (by omega) w (Lib.tabBelow_of_tabIs htab w hb)).mono ?_;rintro e w' ⟨rfl,k,os,rfl⟩;refine⟨?_,Lib.below_grow _ _ (Nat.le_refl _) k os⟩
 have e1:Lib.itoa (n:Int)=decDigits n:=by
  unfold Lib.itoa;rw[if_neg (by omega)];rfl
 rw[e1];rfl
end Go.Proofs.YtpicaknklgccoabGreatDoor
