import Derived.Test.YtpicaknklgccoabGreatDoorV22
set_option maxHeartbeats 2000000
set_option maxRecDepth 100000
namespace Go.Proofs.YtpicaknklgccoabGreatDoor
open Go.RowKit
open Go.Lib (decDigits)
theorem JK (k:Kw) (rg:List UInt8):dn (if k=.pair then rg else [])=if k=.pair then dn rg else []:=by split <;> rfl
theorem Bt (rg:List UInt8):∀ {vs:List Nat} {x:KE} {t:Nat},KT vs x t->vs.length<=101->Eo rg x:=by
 intro vs x t h
 induction h with
 | num h=>intro _;exact NU rg _ (by omega)
 | var h =>
  intro hl;refine NV rg _ ?_;have:=(List.getElem?_eq_some_iff.1 h).1;omega
 | aP _ hl _ _ ha hb =>
  intro _;refine j0 rg _ .aP _ [_,_] (by decide) (by omega) ?_ (λw p h=>ou h) (by simp) ?_
  ·simp only[KE.pt,PT.tidy,bT,JK,fR,List.map_cons,List.map_nil]
  ·intro y hy
   simp only[List.mem_cons,List.not_mem_nil,or_false] at hy
   rcases hy with rfl | rfl
   ·exact ha (by omega)
   ·exact hb (by simp;omega)
 | di _ _ _ ha hb hc =>
  intro hl;refine j0 rg _ .di 0 [_,_,_] (by decide) (by omega) ?_ (λw p h=>vC h) (by simp) ?_
  ·simp only[KE.pt,PT.tidy,bT,fR,List.map_cons,List.map_nil]
   rfl
  ·intro y hy
   simp only[List.mem_cons,List.not_mem_nil,or_false] at hy
   rcases hy with rfl | rfl | rfl
   ·exact ha hl
   ·exact hb hl
   ·exact hc hl
 | loop hl _ _ _ ha hb hc =>
  intro _;refine j0 rg _ .loop _ [_,_,_] (by decide) (by omega) ?_ (λw p h=>vC h) (by simp) ?_
  ·simp only[KE.pt,PT.tidy,bT,fR,List.map_cons,List.map_nil]
   rfl
  ·intro y hy
   simp only[List.mem_cons,List.not_mem_nil,or_false] at hy
   rcases hy with rfl | rfl | rfl
   ·exact ha (by omega)
   ·exact hb (by omega)
   ·exact hc (by simp;omega)
 | pair _ _ _ _ ha hb =>
  intro hl;refine j0 rg _ .pair 0 [_,_] (by decide) (by omega) ?_ (λw p h=>ou h) (by simp) ?_
  ·simp only[KE.pt,PT.tidy,bT,fR,List.map_cons,List.map_nil,if_true]
  ·intro y hy
   simp only[List.mem_cons,List.not_mem_nil,or_false] at hy
   rcases hy with rfl | rfl
   ·exact ha hl
   ·exact hb hl
 | fst _ _ _ ha =>
  intro hl;refine j0 rg _ .fst 0 [_] (by decide) (by omega) ?_ (λw p h=>vB h) (by simp) ?_
  ·simp only[KE.pt,PT.tidy,bT,List.map_cons,List.map_nil,<- fR]
   rfl
  ·intro y hy
   simp only[List.mem_cons,List.not_mem_nil,or_false] at hy;subst hy;exact ha hl
 | snd _ _ _ ha =>
  intro hl;refine j0 rg _ .snd 0 [_] (by decide) (by omega) ?_ (λw p h=>vB h) (by simp) ?_
  ·simp only[KE.pt,PT.tidy,bT,List.map_cons,List.map_nil,<- fR]
   rfl
  ·intro y hy
   simp only[List.mem_cons,List.not_mem_nil,or_false] at hy;subst hy;exact ha hl
 | two hk _ _ ha hb =>
  intro hl;refine j0 rg _ _ 0 [_,_] (by rcases hk with rfl | rfl | rfl <;> decide) (by omega) ?_ (λw p h=>ou h) (by simp) ?_
  ·simp only[KE.pt,PT.tidy,bT,JK,fR,List.map_cons,List.map_nil]
  ·intro y hy
   simp only[List.mem_cons,List.not_mem_nil,or_false] at hy
   rcases hy with rfl | rfl
   ·exact ha hl
   ·exact hb hl
def MG (n:Nat) (a b:Value):Array Value:=#[.int .i64 n,a,b]
def dW (w:World):Vl->Nat->Prop
 | .n k,p=>w.heap[p]?=some (.cells (MG k (.pointer none) (.pointer none)) 29 (0,0))
 | .p a b,p=>∃ pa pb:Nat,w.heap[p]?=some (.cells (MG 0 (.pointer (some ⟨pa,0,none⟩)) (.pointer (some ⟨pb,0,none⟩))) 29 (0,0))/\dW w a pa/\dW w b pb
theorem dW.keep {w w':World} (h:∀ (k:Nat) (arr:Array Value),w.heap[k]?=some (.cells arr 29 (0,0))->w'.heap[k]?=some (.cells arr 29 (0,0))):∀ {v:Vl} {p:Nat},dW w v p->dW w' v p
 | .n _,_,hx=>h _ _ hx
 | .p _ _,_,⟨pa,pb,h1,h2,h3⟩=>⟨pa,pb,h _ _ h1,dW.keep h h2,dW.keep h h3⟩
theorem dW.below {w w':World} {v:Vl} {p:Nat} (h:dW w v p) (hb:Below w.heap.size w w'):dW w' v p:=h.keep (λk _ hk=>(hb.block k (af hk)).trans hk)
theorem dW.num {w:World} {v:Vl} {p:Nat} (h:dW w v p):p<w.heap.size/\w.cell? ⟨p,0,none⟩=some (.int .i64 v.num):=by
 cases v with
 | n k=>have h':w.heap[p]?=some (.cells (MG k (.pointer none) (.pointer none)) 29 (0,0)):=h;exact⟨af h',by rw[aa h'];rfl⟩
 | p a b=>obtain⟨pa,pb,h1,_,_⟩:=h;exact⟨af h1,by rw[aa h1];rfl⟩
def oP (l:List Nat):List Value:=l.map (λ(k:Nat)=>Value.pointer (some ⟨k,0,none⟩))
theorem fS (l:List Nat):(oP l).length=l.length:=by simp[oP]
theorem yO (l:List Nat) (v:Nat):oP (l++[v])=oP l++[.pointer (some ⟨v,0,none⟩)]:=by simp[oP]
def dU (nv:Value) (fuel:Nat) (st:cu):Array Value:=#[nv,.int .i64 fuel,.int .i64 st.steps,.int .i64 st.cells,.bool (decide (st.e≠0))]
structure dX (w0 w:World) (yb:Nat) (vals:List Vl) (ps:List Nat) (fuel:Nat) (st:cu) (nv:Value):Prop where
 ob:kN w0 w yb (dU nv fuel st) 70 nv 26 (oP ps)
 len:ps.length=vals.length
 v:∀ (i:Nat) (v:Vl) (p:Nat),vals[i]?=some v->ps[i]?=some p->dW w v p
theorem dW.fr {w0 w w':World} {yb:Nat} {cs:Array Value} {xs:List Value} {nv bJ:Value} {v:Vl} {p:Nat} (h:dW w v p) (hm:kN w0 w yb cs 70 nv 26 xs) (hf:du w w' yb nv bJ):dW w' v p :=
 h.keep (λk arr hk=>hm.other hf (by decide) (by decide) hk)
theorem dX.grow {w0 w w':World} {yb:Nat} {vals:List Vl} {ps:List Nat} {fuel:Nat} {st:cu} {nv:Value} (h:dX w0 w yb vals ps fuel st nv) (hb:Below w.heap.size w w'):dX w0 w' yb vals ps fuel st nv :=
 ⟨h.ob.grow hb,h.len,λi v p h1 h2=>(h.v i v p h1 h2).below hb⟩
theorem dX.set {w0 w:World} {yb:Nat} {vals:List Vl} {ps:List Nat} {fuel:Nat} {st st':cu} {nv:Value} (h:dX w0 w yb vals ps fuel st nv) (o:Nat) (x:Value) (hx:(dU nv fuel st).setIfInBounds o x=dU nv fuel st'):dX w0 (w.setCell ⟨yb,o,none⟩ x) yb vals ps fuel st' nv :=
 ⟨h.ob.set o x hx,h.len,λi v p h1 h2=>(h.v i v p h1 h2).fr h.ob (du.ym w yb nv o x)⟩
theorem qW:∀ (v:Vl) (T:Ty) (p:Nat) (w:World),v.has T->T.size<=63->dW w v p->(∀ W,Below w.heap.size w W->pP W) ->
  Calls Tryz.prog 9 #[.pointer (some ⟨p,0,none⟩)] w λe w'=>e=.returned (.string (bs v.txt))/\Below w.heap.size w w'
 | .n k,T,p,w,hv,_,hk,hit=>by
  have XP:k<=9999:=by
   cases T with
   | n=>exact hv
   | p _ _ _=>exact hv.elim
  have hk':w.heap[p]?=some (.cells (MG k (.pointer none) (.pointer none)) 29 (0,0)):=hk;have hp:=af hk'
  have x0:w.cell? ⟨p,0,none⟩=some (.int .i64 k):=by rw[aa hk'];rfl
  have x1:w.cell? ⟨p,1,none⟩=some (.pointer none):=by rw[aa hk'];rfl
  have HI:Hid _:=hit w (Below.refl _ _) k w XP (Below.refl _ _);simp only[Vl.txt];clear hk hk' hit hv
  go_enter Tryz.func9,Tryz.ntmps9
  go_wp2_with fail
  refine Calls.mono HI.out ?_;rintro _ w2 ⟨rfl,hb⟩
  go_wp2
  go_ret
  exact⟨rfl,hb⟩
 | .p a b,T,p,w,hv,hT,hk,hit=>by
  obtain⟨r,A,B,rfl,ha,hb⟩:∃ r A B,T=.p r A B/\a.has A/\b.has B:=by
   cases T with
   | n=>exact hv.elim
   | p r A B=>exact⟨r,A,B,rfl,hv.1,hv.2⟩
  simp only[Ty.size] at hT;obtain⟨pa,pb,h1,h2,h3⟩:=hk;have hp:=af h1
  have x1:w.cell? ⟨p,1,none⟩=some (.pointer (some ⟨pa,0,none⟩)):=by rw[aa h1];rfl
  have x2:w.cell? ⟨p,2,none⟩=some (.pointer (some ⟨pb,0,none⟩)):=by rw[aa h1];rfl
  have HA:Hid _:=qW a A pa w ha (by omega) h2 hit
  have HB:Hid _:=λW hW=>qW b B pb W hb (by omega) (h3.below hW) (λW' hW'=>hit W' (hW.trans (hW'.mono hW.size)))
  have la:=Vl.xg ha;have lb:=Vl.xg hb;have z1:(ByteArray.mk #[91]).size=1:=rfl;have z2:(ByteArray.mk #[32]).size=1:=rfl;have z3:(ByteArray.mk #[93]).size=1:=rfl
  have zA:(bs a.txt).size<=1000:=by rw[bE];omega
  have zB:(bs b.txt).size<=1000:=by rw[bE];omega
  have zC:(ByteArray.mk #[91]++bs a.txt).size<=1001:=by rw[ByteArray.size_append];omega
  have zD:(ByteArray.mk #[91]++bs a.txt++ByteArray.mk #[32]).size<=1002:=by rw[ByteArray.size_append];omega
  have zE:(ByteArray.mk #[91]++bs a.txt++ByteArray.mk #[32]++bs b.txt).size<=2002:=by rw[ByteArray.size_append];omega
  have hfin:ByteArray.mk #[91]++bs a.txt++ByteArray.mk #[32]++bs b.txt++ByteArray.mk #[93]=bs (Vl.txt (.p a b)):=by
   rw[show ByteArray.mk #[91]=bs [91] from rfl,show ByteArray.mk #[32]=bs [32] from rfl,show ByteArray.mk #[93]=bs [93] from rfl,bD,bD,bD,bD];simp[Vl.txt]
  have yG:Hid _:=hfin;clear hfin h1 h2 h3 hit hv ha hb la lb
  go_enter Tryz.func9,Tryz.ntmps9
  go_wp2_with fail
  refine Calls.mono HA.out ?_;rintro _ w2 ⟨rfl,hb2⟩;have y2:w2.cell? ⟨p,2,none⟩=some (.pointer (some ⟨pb,0,none⟩)):=(hb2.cell (p:=⟨p,2,none⟩) hp).trans x2
  have oU:p<w2.heap.size:=by have:=hb2.size;omega
  have eC:Hid _:=hb2;clear hb2 HA
  go_wp2_with fail
  refine Calls.mono (HB.out w2 eC.out) ?_;rintro _ w3 ⟨rfl,hb3⟩;have jb:Hid _:=eC.out.trans (hb3.mono eC.out.size);clear hb3 HB
  go_wp2
  go_ret
  exact⟨by rw[<- yG.out];rfl,jb.out⟩
theorem kr {id p:Nat} {x:Ty × fY} {T:Ty} {A:Nat} (h0:x.2.e=0) (hb:x.1.bare=T) (hs:T.size<=63) (ha:x.2.at_=A):(fin id p x).2.e=0/\(fin id p x).1.bare=T/\T.size<=63/\(fin id p x).2.at_=A:=by
 have hsz:x.1.size<=63:=by rw[<- iH,hb];exact hs
 unfold fin
 have:¬ (x.2.e=0/\63<x.1.size):=by omega
 simp only[if_neg this];exact⟨h0,hb,hs,ha⟩
theorem iR {T A B:Ty} {r:Nat} (h:T.bare=.p r A B):∃ q u v,T=.p q u v/\u.bare=A/\v.bare=B:=by
 cases T with
 | n=>simp[Ty.bare] at h
 | p q u v=>simp only[Ty.bare,Ty.p.injEq] at h;exact⟨q,u,v,rfl,h.2.1,h.2.2⟩
theorem fK {T:Ty} (h:T.bare=.n):T=.n:=by cases T with
 | n=>rfl
 | p q u v=>simp[Ty.bare] at h
theorem WT.find {G:aV} {e:PT} {T:Ty} (h:WT G e T):∀ (cls:List Nat) (id site:Nat) (env:aV) (st:fY),rU env=G->(∀ x∈env,x.2.size<=63)->st.e=0 ->
  (aH cls e id site env st).2.e=0/\(aH cls e id site env st).1.bare=T/\T.size<=63/\(aH cls e id site env st).2.at_=st.at_:=by
 induction h with
 | num=>intro cls id site env st _ _ h0;simp only[aH];exact kr h0 rfl (by simp[Ty.size]) rfl
 | name h =>
  intro cls id site env st hG hs h0;simp only[aH];rw[<- hG,A6] at h
  cases hl:look env _ with
  | none=>rw[hl] at h;simp at h
  | some U =>
   rw[hl] at h;simp only[Option.map_some,Option.some.injEq] at h
   have hU:U.size<=63:=by
    unfold look at hl
    cases hf:env.reverse.find? (λx=>x.1==_) with
    | none=>rw[hf] at hl;simp at hl
    | some z =>
     rw[hf] at hl;simp only[Option.map_some,Option.some.injEq] at hl;have:=List.mem_of_find?_eq_some hf;rw[<- hl];exact hs z (List.mem_reverse.1 this)
   exact kr h0 h (by rw[<- h,iH];exact hU) rfl
 | aP ha hb aF bu =>
  intro cls id site env st hG hs h0;simp only[aH,if_true,fZ];obtain⟨a1,a2,a3,a4⟩:=aF cls (id+1) site env st hG hs h0
  rename_i nm _ a b A B
  obtain⟨b1,b2,b3,b4⟩:=bu cls (id+1+a.cnt) (site+a.bz) (env++[(nm,(aH cls a (id+1) site env st).1)]) (aH cls a (id+1) site env st).2 (by rw[nY,hG,a2]) (by
   intro x hx
   rcases List.mem_append.1 hx with hx | hx
   ·exact hs x hx
   ·simp only[List.mem_singleton] at hx;subst hx;rw[<- iH,a2];exact a3) a1
  exact kr b1 b2 b3 (b4.trans a4)
 | pair ha hb hsz aF bu =>
  intro cls id site env st hG hs h0;simp only[aH,if_true,bW,if_neg (show Kw.pair≠.aP by decide),if_neg (show Kw.pair≠.loop by decide)]
  rename_i a b A B
  obtain⟨a1,a2,a3,a4⟩:=aF cls (id+1) (site+1) env st hG hs h0;obtain⟨b1,b2,b3,b4⟩:=bu cls (id+1+a.cnt) (site+1+a.bz) env _ hG hs a1;rw[if_neg (by rw[b1];simp)];simp only[cZ];exact kr b1 (by simp only[Ty.bare,a2,b2]) hsz (b4.trans a4)
 | fst ha aF =>
  intro cls id site env st hG hs h0;simp only[aH,bW,if_neg (show Kw.fst≠.aP by decide),if_neg (show Kw.fst≠.loop by decide),if_neg (show Kw.fst≠.pair by decide),Nat.add_zero];obtain⟨a1,a2,a3,a4⟩:=aF cls (id+1) site env st hG hs h0;rw[if_neg (by rw[a1];simp)];obtain⟨q,u,v,e,hu,hv⟩:=iR a2;rw[e];simp only[cZ];simp only[Ty.size] at a3;exact kr a1 hu (by omega) a4
 | snd ha aF =>
  intro cls id site env st hG hs h0;simp only[aH,bW,if_neg (show Kw.snd≠.aP by decide),if_neg (show Kw.snd≠.loop by decide),if_neg (show Kw.snd≠.pair by decide),Nat.add_zero];obtain⟨a1,a2,a3,a4⟩:=aF cls (id+1) site env st hG hs h0;rw[if_neg (by rw[a1];simp)];obtain⟨q,u,v,e,hu,hv⟩:=iR a2;rw[e];simp only[cZ];simp only[Ty.size] at a3;exact kr a1 hv (by omega) a4
 | di ha hb hc aF bu fe =>
  intro cls id site env st hG hs h0;simp only[aH,bW,if_neg (show Kw.di≠.aP by decide),if_neg (show Kw.di≠.loop by decide),if_neg (show Kw.di≠.pair by decide),Nat.add_zero]
  rename_i a b c T
  obtain⟨a1,a2,a3,a4⟩:=aF cls (id+1) site env st hG hs h0;obtain⟨b1,b2,b3,b4⟩:=bu cls (id+1+a.cnt) (site+a.bz) env _ hG hs a1;obtain⟨c1,c2,c3,c4⟩:=fe cls (id+1+a.cnt+b.cnt) (site+a.bz+b.bz) env _ hG hs b1;rw[if_neg (by rw[c1];simp)];simp only[cZ];rw[if_pos ⟨fK a2,by rw[b2,c2]⟩];exact kr c1 b2 b3 (c4.trans (b4.trans a4))
 | two hk ha hb aF bu =>
  intro cls id site env st hG hs h0
  rename_i k _ _ a b
  have hk':k≠.aP/\k≠.loop/\k≠.pair:=by rcases hk with rfl | rfl | rfl <;> decide
  simp only[aH,bW,if_neg hk'.1,if_neg hk'.2.1,if_neg hk'.2.2,Nat.add_zero];obtain⟨a1,a2,a3,a4⟩:=aF cls (id+1) site env st hG hs h0;obtain⟨b1,b2,b3,b4⟩:=bu cls (id+1+a.cnt) (site+a.bz) env _ hG hs a1;rw[if_neg (by rw[b1];simp)]
  have hm:∀ (ps:Nat) (A B:Ty) (s:fY),A=.n->B=.n->cZ cls k ps site [A,B] s=(.n,s):=by
   rintro ps _ _ s rfl rfl
   rcases hk with rfl | rfl | rfl <;> simp[cZ]
  rw[hm _ _ _ _ (fK a2) (fK b2)];exact kr b1 rfl (by simp[Ty.size]) (b4.trans a4)
 | loop ha hb hc aF bu fe =>
  intro cls id site env st hG hs h0;simp only[aH,bS,if_true,if_neg (show Kw.loop≠.aP by decide)]
  rename_i nm _ a b c T
  obtain⟨a1,a2,a3,a4⟩:=aF cls (id+1) site env st hG hs h0;obtain⟨b1,b2,b3,b4⟩:=bu cls (id+1+a.cnt) (site+a.bz) env _ hG hs a1
  obtain⟨c1,c2,c3,c4⟩:=fe cls (id+1+a.cnt+b.cnt) (site+a.bz+b.bz) (env++[(nm,(aH cls b (id+1+a.cnt) (site+a.bz) env (aH cls a (id+1) site env st).2).1)]) _ (by rw[nY,hG,b2]) (by
   intro x hx
   rcases List.mem_append.1 hx with hx | hx
   ·exact hs x hx
   ·simp only[List.mem_singleton] at hx;subst hx;rw[<- iH,b2];exact b3) b1
  rw[if_neg (by rw[c1];simp)];simp only[cZ];rw[if_pos ⟨fK a2,by rw[b2,c2]⟩];exact kr c1 b2 b3 (c4.trans (b4.trans a4))
 | new ha aF =>
  intro cls id site env st hG hs h0;simp only[aH,bW,if_neg (show Kw.new≠.aP by decide),if_neg (show Kw.new≠.loop by decide),if_neg (show Kw.new≠.pair by decide),Nat.add_zero];obtain⟨a1,a2,a3,a4⟩:=aF cls (id+1) site env st hG hs h0;rw[if_neg (by rw[a1];simp)];simp only[cZ];exact kr a1 a2 a3 a4
theorem H7 {e:PT} {T:Ty} (h:WT [] e T) (hp:e.bz<=100):dF e=(0,0):=by
 unfold dF;have hf:=h.find (List.range e.bz) 0 0 [] (XE e) rfl (by simp) rfl;rw[if_neg (by omega),hf.1,hf.2.2.2];rfl
mutual
theorem yP:∀ e:PT,e.np.bz=e.bz
 | .num _ _=>rfl
 | .name _ _=>rfl
 | .node _ _ _ _ kids=>by simp only[PT.np,PT.bz,JL kids]
theorem JL:∀ l:List PT,ic (dN l)=ic l
 | []=>rfl
 | t::r=>by simp only[dN,ic,yP t,JL r]
end
mutual
theorem nJ (fuel:Nat):∀ (e:PT) (env:ep) (st:cu),ev fuel e.np env st=ev fuel e env st
 | .num _ _,_,_=>rfl
 | .name _ _,_,_=>rfl
 | .node _ k nm rg kids,env,st=>by
  simp only[PT.np,ev]
  congr 1
  funext st
  rw[N0 fuel nm kids,Rq fuel kids,Ll fuel nm kids,Bu fuel kids]
theorem Bu (fuel:Nat):∀ (l:List PT) (env:ep) (st:cu),bM fuel (dN l) env st=bM fuel l env st
 | [],_,_=>rfl
 | t::r,env,st=>by simp only[dN,bM,nJ fuel t,Bu fuel r]
theorem N0 (fuel:Nat) (nm:List UInt8):∀ (l:List PT) (env:ep) (st:cu),gM fuel nm (dN l) env st=gM fuel nm l env st
 | [],_,_=>rfl
 | [_],_,_=>rfl
 | [a,b],env,st=>by simp only[dN,gM,nJ fuel a,nJ fuel b]
 | _::_::_::_,_,_=>rfl
theorem Rq (fuel:Nat):∀ (l:List PT) (env:ep) (st:cu),mw fuel (dN l) env st=mw fuel l env st
 | [],_,_=>rfl
 | [_],_,_=>rfl
 | [_,_],_,_=>rfl
 | [a,b,c],env,st=>by simp only[dN,mw,nJ fuel a,nJ fuel b,nJ fuel c]
 | _::_::_::_::_,_,_=>rfl
theorem Ll (fuel:Nat) (nm:List UInt8):∀ (l:List PT) (env:ep) (st:cu),eu fuel nm (dN l) env st=eu fuel nm l env st
 | [],_,_=>rfl
 | [_],_,_=>rfl
 | [_,_],_,_=>rfl
 | [a,b,c],env,st=>by simp only[dN,eu,nJ fuel a,nJ fuel b,nJ fuel c]
 | _::_::_::_::_,_,_=>rfl
end
theorem iw {fuel p:Nat} {k:Kw} {nm rg gU:List UInt8} {kids nK:List PT} (h1:gM fuel nm kids=gM fuel nm nK) (h2:mw fuel kids=mw fuel nK) (h3:eu fuel nm kids=eu fuel nm nK) (h4:bM fuel kids=bM fuel nK):ev fuel (.node p k nm rg kids)=ev fuel (.node p k nm gU nK):=by
 funext env st
 simp only[ev];rw[h1,h2,h3,h4]
theorem kS (fuel:Nat) (rg:List UInt8):∀ (x:KE),ev fuel (x.pt rg)=ev fuel (x.pt [])
 | .num _=>rfl
 | .var _=>rfl
 | .n1 k a=>by
  simp only[KE.pt];refine iw rfl rfl rfl ?_
  funext env st;simp only[bM,kS fuel rg a]
 | .n2 k n a b=>by
  simp only[KE.pt];refine iw ?_ rfl rfl ?_
  ·funext env st;simp only[gM,kS fuel rg a,kS fuel rg b]
  ·funext env st;simp only[bM,kS fuel rg a,kS fuel rg b]
 | .n3 k n a b c=>by
  simp only[KE.pt];refine iw rfl ?_ ?_ ?_
  ·funext env st;simp only[mw,kS fuel rg a,kS fuel rg b,kS fuel rg c]
  ·funext env st;simp only[eu,kS fuel rg a,kS fuel rg b,kS fuel rg c]
  ·funext env st;simp only[bM,kS fuel rg a,kS fuel rg b,kS fuel rg c]
mutual
theorem iy:∀ (e:PT) {G:aV} {T:Ty},WT G e.np T->WT G e T
 | .num _ _,_,_,h=>by cases h;exact .num
 | .name _ _,_,_,h=>by cases h with | name h=>exact .name h
 | .node p k nm rg kids,G,T,h=>by
  match kids with
  | []=>simp only[PT.np,dN] at h;cases h
  | [a] =>
   simp only[PT.np,dN] at h
   cases h with
   | fst h=>exact .fst (iy a h)
   | snd h=>exact .snd (iy a h)
   | new h=>exact .new (iy a h)
  | [a,b] =>
   simp only[PT.np,dN] at h
   cases h with
   | aP h1 h2=>exact .aP (iy a h1) (iy b h2)
   | pair h1 h2 h3=>exact .pair (iy a h1) (iy b h2) h3
   | two hk h1 h2=>exact .two hk (iy a h1) (iy b h2)
  | [a,b,c] =>
   simp only[PT.np,dN] at h
   cases h with
   | di h1 h2 h3=>exact .di (iy a h1) (iy b h2) (iy c h3)
   | loop h1 h2 h3=>exact .loop (iy a h1) (iy b h2) (iy c h3)
  | _::_::_::_::_=>simp only[PT.np,dN] at h;cases h
end
theorem Tryz.Rs:(Tryz.prog.info? 26).map (λi=>(i.zero,i.size,i.bytes))=some (some (.pointer none),1,8):=by kernel_rfl
theorem Tryz.Ru:Tryz.prog.underlying 68=some (.slice 26):=by kernel_rfl
theorem TR {w0:World} {yb fuel:Nat} (b q:Nat) (vals:List Vl) (ps:List Nat) (v:Vl) (st:cu) (nv:Value) (w:World) (R:Vl × cu)
  (hf:∀ (nv:Value) (w:World),dX w0 w yb (vals++[v]) (ps++[q]) fuel st nv->Calls Tryz.prog 29 #[.pointer (some ⟨yb,0,none⟩),.pointer (some ⟨b,0,none⟩)] w λe w'=>∃ r bJ,e=.returned (.pointer (some ⟨r,0,none⟩))/\du w w' yb nv bJ/\dX w0 w' yb (vals++[v]) (ps++[q]) fuel R.2 bJ/\dW w' R.1 r)
  (h:dX w0 w yb vals ps fuel st nv) (hq:dW w v q) (hl:vals.length<=200) :
  Calls Tryz.prog 49 #[.pointer (some ⟨yb,0,none⟩),.pointer (some ⟨q,0,none⟩),.pointer (some ⟨b,0,none⟩)] w λe w'=>∃ r bJ,e=.returned (.pointer (some ⟨r,0,none⟩))/\du w w' yb nv bJ/\dX w0 w' yb vals ps fuel R.2 bJ/\dW w' R.1 r:=by
 obtain⟨i0,hi,hz0,hz1,hz2⟩:=info_parts Tryz.Rs;have HI:Hid _:=hi;have rR:Hid _:=hz0;have rS:Hid _:=hz1;have rT:Hid _:=hz2;have HH:Hid _:=h;have nV:=af h.ob.y;have hpl:=h.len
 have abo:ps.length<=200:=by omega
 obtain⟨na,nc,qP,_,_⟩:=h.ob.shape;rw[fS] at qP
 have y3:w.cell? ⟨yb,0,none⟩=some (.slice na ps.length nc):=by rw[aa h.ob.y,<- qP];rfl
 have f3:w.frozen? ⟨yb,0,none⟩=false:=ag h.ob.y 0
 have hown:w.ownsRow 0 26 1 (.slice na ps.length nc) ps.length (oP ps):=by
  have:=dL (base':=0) h.ob.n (λ_ _=>Nat.zero_le _);rw[fS,qP] at this;exact this
 have Gt:Hid _:=qP;have eK:Hid (w.ownsRow 0 26 1 (.slice na ps.length nc) ps.length (oP ps)):=hown;have YW:Hid _:=hf;have HQ:Hid _:=hq;clear hi hz0 hz1 hz2 hown qP h hf hq hpl
 go_enter Tryz.func49,Tryz.ntmps49
 go_wp2_with (at_builtin;go_must (refine qM _ rfl (.tmp 18) (.tmp 20) 68 rfl 26 i0 _ 1 8 Tryz.Ru HI.out rR.out rS.out rT.out rfl (by decide) (.slice na ps.length nc) ps.length (oP ps) rfl (eK.out.alloc _) ⟨w.heap.size,0,none⟩ 1 1 [.pointer (some ⟨q,0,none⟩)] rfl rfl ?d1 ?d2 (by decide) ?d3 ?d4 ?_))
 case d1 =>
  intro j' u hj'
  match j',hj' with
  | 0,hj'=>simp at hj';subst hj';simp[Addr.add]
  | j'+1,hj'=>simp at hj'
 case d2=>intro u hu;simp at hu;subst hu;rfl
 case d3=>unfold maxLen;omega
 case d4=>omega
 intro g1 c1 w3 Q2 VJ NJ;have fk:=kN.push (x:=.pointer (some ⟨q,0,none⟩)) (o:=0) (W:=w3.setCell ⟨yb,0,none⟩ (.slice (some ⟨g1,0,none⟩) (ps.length+1) c1)) HH.out.ob (by rw[Gt.out];exact VJ) (by rw[fS];exact Q2) (by rw[Gt.out];simpa using NJ) (by rw[fS]);rw[fS] at fk;obtain⟨YX,hs1⟩:=fk
 have jD:dX w0 (w3.setCell ⟨yb,0,none⟩ (.slice (some ⟨g1,0,none⟩) (ps.length+1) c1)) yb (vals++[v]) (ps++[q]) fuel st (.slice (some ⟨g1,0,none⟩) (ps.length+1) c1):=by
  refine⟨?_,by simp[HH.out.len],?_⟩
  ·rw[yO];exact YX
  ·intro i u p h1 h2
   rcases Nat.lt_or_ge i vals.length with hlt | hge
   ·rw[List.getElem?_append_left hlt] at h1
    rw[List.getElem?_append_left (by rw[HH.out.len];exact hlt)] at h2;exact (HH.out.v i u p h1 h2).fr HH.out.ob hs1
   ·rw[List.getElem?_append_right hge] at h1
    rw[List.getElem?_append_right (by rw[HH.out.len];exact hge),HH.out.len] at h2
    have hi0:i-vals.length=0:=by
     rcases Nat.eq_zero_or_pos (i-vals.length) with h | h
     ·exact h
     ·rw[List.getElem?_eq_none (by simp;omega)] at h1;cases h1
    rw[hi0] at h1 h2;simp only[List.getElem?_cons_zero,Option.some.injEq] at h1 h2;subst h1;subst h2;exact HQ.out.fr HH.out.ob hs1
 have hcall:=YW.out _ _ jD
 have Rh:w3.heap[yb]?=some (.cells (dU nv fuel st) 70 (0,0)):=by
  rw[VJ.block yb (by simp;omega) (λe=>HH.out.ob.ny (by rw[Gt.out];exact e.symm)),Below.heap_alloc _ _ _ nV];exact HH.out.ob.y
 have abh:=af Rh
 have y33:w3.cell? ⟨yb,0,none⟩=some nv:=by rw[aa Rh];rfl
 have f33:w3.frozen? ⟨yb,0,none⟩=false:=ag Rh 0;have HC:Hid _:=hcall;have K3:Hid _:=hs1;clear Q2 VJ NJ YX Rh y3 f3 hcall jD hs1 YW eK HQ
 go_wp2_with fail
 refine Calls.mono HC.out ?_;rintro _ w7 ⟨r,YY,rfl,aY,Ri,YZ⟩;obtain⟨na7,CB,vw,NK,Hg⟩:=Ri.ob.shape;have yA:=Ri.ob;rw[fS,List.length_append,List.length_singleton] at vw Hg NK;obtain⟨g7,Y0⟩:=Hg (by omega);rw[Y0] at vw
 have y37:w7.cell? ⟨yb,0,none⟩=some (.slice (some ⟨g7,0,none⟩) (ps.length+1) CB):=by rw[aa yA.y,<- vw];rfl
 have f37:w7.frozen? ⟨yb,0,none⟩=false:=ag yA.y 0;have abj:=af yA.y
 have hP:kN w0 (w7.setCell ⟨yb,0,none⟩ (.slice (some ⟨g7,0,none⟩) ps.length CB)) yb (dU (.slice (some ⟨g7,0,none⟩) ps.length CB) fuel R.2) 70 (.slice (some ⟨g7,0,none⟩) ps.length CB) 26 (oP ps):=by
  have h1:=yA;rw[yO,vw] at h1;have h2:=kN.pop (o:=0) (xs:=oP ps) (x:=.pointer (some ⟨q,0,none⟩)) (g:=g7) (cap:=CB) (by rw[fS];exact h1);rw[fS] at h2;exact h2
 have hfs:=du.ym w7 yb YY 0 (.slice (some ⟨g7,0,none⟩) ps.length CB)
 have Hh:Hid (dX w0 (w7.setCell ⟨yb,0,none⟩ (.slice (some ⟨g7,0,none⟩) ps.length CB)) yb vals ps fuel R.2 (.slice (some ⟨g7,0,none⟩) ps.length CB)):=by
  refine⟨hP,HH.out.len,λi u p h1 h2=>?_⟩;have hiv:=(List.getElem?_eq_some_iff.1 h1).1;refine (Ri.v i u p ?_ ?_).fr yA hfs
  ·rw[List.getElem?_append_left hiv];exact h1
  ·rw[List.getElem?_append_left (by rw[HH.out.len];exact hiv)];exact h2
 have vz:Hid _:=YZ.fr yA hfs;have sC:Hid _:=((K3.out.trans aY).trans hfs).NF (cO:=.slice (some ⟨g7,0,none⟩) ps.length CB) (by rw[vw];rfl);clear aY Ri YZ yA vw Hg Y0 hP hfs HC K3 y33 f33
 go_wp2
 go_ret
 exact⟨r,_,rfl,sC.out,Hh.out,vz.out⟩
structure uh (fuel:Nat) (st:cu):Prop where
 f:fuel<=20000
 s:st.steps<=fuel
 c:st.cells<=st.steps
theorem uh.on {fuel:Nat} {st:cu} (h:uh fuel st) (t:PT) (env:ep):uh fuel (ev fuel t env st).2:=by
 have h1:=js fuel t env st h.s;exact⟨h.f,h1.1,by have:=h.c;omega⟩
theorem uh.step {fuel:Nat} {st:cu} (hs:uh fuel st) (hq:st.steps≠fuel):uh fuel { st with steps:=st.steps+1 } :=
 ⟨hs.f,by have:=hs.s;show st.steps+1<=fuel;omega,by have:=hs.c;show st.cells<=st.steps+1;omega⟩
def Lm (w0:World) (yb fuel:Nat) (x:KE) (vs:List Nat):Prop :=
 ∀ (b:Nat) (vals:List Vl) (ps:List Nat) (st:cu) (nv:Value) (w:World),eD w0 x b->dX w0 w yb vals ps fuel st nv->(st.e=0->qj (cP vals) (wL vs))->vals.length=vs.length->uh fuel st ->
  Calls Tryz.prog 29 #[.pointer (some ⟨yb,0,none⟩),.pointer (some ⟨b,0,none⟩)] w λe w'=>∃ r bJ,e=.returned (.pointer (some ⟨r,0,none⟩))/\du w w' yb nv bJ/\dX w0 w' yb vals ps fuel (ev fuel (x.pt []) (cP vals) st).2 bJ/\dW w' (ev fuel (x.pt []) (cP vals) st).1 r
def Ev (w0:World) (yb fuel:Nat) (x:KE) (vs:List Nat):Prop :=
 ∀ (b:Nat) (vals:List Vl) (ps:List Nat) (st:cu) (nv:Value) (w:World),eD w0 x b->dX w0 w yb vals ps fuel st nv->qj (cP vals) (wL vs)->vals.length=vs.length->uh fuel st->st.e=0->st.steps≠fuel ->
  Calls Tryz.prog 29 #[.pointer (some ⟨yb,0,none⟩),.pointer (some ⟨b,0,none⟩)] w λe w'=>∃ r bJ,e=.returned (.pointer (some ⟨r,0,none⟩))/\du w w' yb nv bJ/\dX w0 w' yb vals ps fuel (ev fuel (x.pt []) (cP vals) st).2 bJ/\dW w' (ev fuel (x.pt []) (cP vals) st).1 r
theorem H9 {fuel:Nat} {st:cu} {f:cu->Vl × cu} (h:st.e≠0):begun fuel st f=(.n 0,st):=by unfold begun;rw[if_pos h]
theorem Ia {fuel:Nat} {st:cu} {f:cu->Vl × cu} (h0:st.e=0) (h:st.steps=fuel):begun fuel st f=(.n 0,{ st with e:=12 }):=by unfold begun;rw[if_neg (by simpa using h0),if_pos h]
theorem j4 {fuel:Nat} {st:cu} {f:cu->Vl × cu} (h0:st.e=0) (h:st.steps≠fuel):begun fuel st f=f { st with steps:=st.steps+1 }:=by unfold begun;rw[if_neg (by simpa using h0),if_neg h]
theorem Ln (fuel:Nat) (t:PT) (env:ep):∃ f,∀ st,ev fuel t env st=begun fuel st f:=by
 cases t with
 | num p s=>exact⟨_,λst=>by unfold ev;rfl⟩
 | name p s=>exact⟨_,λst=>by unfold ev;rfl⟩
 | node p k nm rg kids=>exact⟨_,λst=>by unfold ev;rfl⟩
theorem ui (w:World) (m:Nat) (p:Addr) (x:Value) (O:Obj):(((w.drewN m).setCell p x).alloc O).heap[w.heap.size]?=some O:=by
 have h:=aj ((w.drewN m).setCell p x) O
 have e:((w.drewN m).setCell p x).heap.size=w.heap.size:=by simp[World.setCell,World.drewN]
 rw[e] at h;exact h
def QB:Obj:=.cells (MG 0 (.pointer none) (.pointer none)) 29 (0,0)
theorem lU {w0:World} {yb fuel:Nat} {x:KE} {vs:List Nat} (h:Ev w0 yb fuel x vs):Lm w0 yb fuel x vs:=by
 intro b vals ps st nv w hx hin bq hlen hs;obtain⟨f,hf⟩:=Ln fuel (x.pt []) (cP vals)
 have y1:w.cell? ⟨yb,1,none⟩=some (.int .i64 fuel):=by rw[aa hin.ob.y];rfl
 have y2:w.cell? ⟨yb,2,none⟩=some (.int .i64 st.steps):=by rw[aa hin.ob.y];rfl
 have y4:w.cell? ⟨yb,4,none⟩=some (.bool (decide (st.e≠0))):=by rw[aa hin.ob.y];rfl
 have f4:w.frozen? ⟨yb,4,none⟩=false:=ag hin.ob.y 4;have nV:=af hin.ob.y
 by_cases he:st.e=0
 ·by_cases hq:st.steps=fuel
  ·rw[hf,Ia he hq]
   have q1:((st.steps:Int)==(fuel:Int))=true:=by rw[hq];simp
   rw[show decide (st.e≠0)=false by simp[he]] at y4
   have hset:=λm=>(hin.grow (dx w m)).set 4 (.bool true) (st':={ st with e:=12 }) rfl
   have Cq:Hid _:=hset;clear hx hin bq hs hset h hf he hq
   go_enter Tryz.func29,Tryz.ntmps29
   go_wp2
   go_quiet (fail)
   go_wp2
   go_ret
   exact⟨_,nv,rfl,(du.setAt w yb nv _ 4 _).trans (du.below (bg (Below.refl _ _) QB) _ _),(Cq.out _).grow (bg (Below.refl _ _) QB),ui w _ _ _ QB⟩
  ·exact h b vals ps st nv w hx hin (bq he) hlen hs he hq
 ·rw[hf,H9 he]
  rw[show decide (st.e≠0)=true by simp[he]] at y4
  have hset:=λm=>(hin.grow (dx w m)).set 4 (.bool true) (st':=st) (by simp[dU,he])
  have Cq:Hid _:=hset;clear hx hin bq hs h hf he hset
  go_enter Tryz.func29,Tryz.ntmps29
  go_wp2
  go_quiet (fail)
  go_wp2
  go_ret
  exact⟨_,nv,rfl,(du.setAt w yb nv _ 4 _).trans (du.below (bg (Below.refl _ _) QB) _ _),(Cq.out _).grow (bg (Below.refl _ _) QB),ui w _ _ _ QB⟩
structure Ew (w:World) (b c:Nat) (k:Kw) (n:Nat) (ks:List Nat):Prop where
 hb:b<w.heap.size
 hg:c<w.heap.size
 c0:w.cell? ⟨b,0,none⟩=some (.string (bs k.bytes))
 c1:w.cell? ⟨b,1,none⟩=some (.int .i64 n)
 c2:w.cell? ⟨b,2,none⟩=some (.slice (some ⟨c,0,none⟩) ks.length ks.length)
 ck:∀ (j x:Nat),ks[j]?=some x->w.cell? ⟨c,j,none⟩=some (.pointer (some ⟨x,0,none⟩))
theorem Ew.on {w0 w:World} {b c:Nat} {k:Kw} {n:Nat} {ks:List Nat} (h:Ew w0 b c k n ks) (hw:Below w0.heap.size w0 w):Ew w b c k n ks :=
 ⟨by have:=hw.size;have:=h.hb;omega,by have:=hw.size;have:=h.hg;omega,(hw.cell (p:=⟨b,0,none⟩) h.hb).trans h.c0,(hw.cell (p:=⟨b,1,none⟩) h.hb).trans h.c1,(hw.cell (p:=⟨b,2,none⟩) h.hb).trans h.c2,λj x hj=>(hw.cell (p:=⟨c,j,none⟩) h.hg).trans (h.ck j x hj)⟩
theorem Zh {w:World} {k:Kw} {a:KE} {b:Nat} (h:eD w (.n1 k a) b):∃ c pa,Ew w b c k 0 [pa]/\eD w a pa:=by
 obtain⟨c,pa,h1,h2,h3⟩:=h;refine⟨c,pa,⟨af h1,af h2,by rw[aa h1];rfl,by rw[aa h1];rfl,by rw[aa h1];rfl,λj x hj=>?_⟩,h3⟩
 match j,hj with
 | 0,hj=>simp at hj;subst hj;rw[aa h2];rfl
 | j+1,hj=>simp at hj
theorem TS {w:World} {k:Kw} {n:Nat} {a d:KE} {b:Nat} (h:eD w (.n2 k n a d) b):∃ c pa pb,Ew w b c k n [pa,pb]/\eD w a pa/\eD w d pb:=by
 obtain⟨c,pa,pb,h1,h2,h3,h4⟩:=h;refine⟨c,pa,pb,⟨af h1,af h2,by rw[aa h1];rfl,by rw[aa h1];rfl,by rw[aa h1];rfl,λj x hj=>?_⟩,h3,h4⟩
 match j,hj with
 | 0,hj=>simp at hj;subst hj;rw[aa h2];rfl
 | 1,hj=>simp at hj;subst hj;rw[aa h2];rfl
 | j+2,hj=>simp at hj
theorem TT {w:World} {k:Kw} {n:Nat} {a d f:KE} {b:Nat} (h:eD w (.n3 k n a d f) b):∃ c pa pb pd,Ew w b c k n [pa,pb,pd]/\eD w a pa/\eD w d pb/\eD w f pd:=by
 obtain⟨c,pa,pb,pd,h1,h2,h3,h4,h5⟩:=h;refine⟨c,pa,pb,pd,⟨af h1,af h2,by rw[aa h1];rfl,by rw[aa h1];rfl,by rw[aa h1];rfl,λj x hj=>?_⟩,h3,h4,h5⟩
 match j,hj with
 | 0,hj=>simp at hj;subst hj;rw[aa h2];rfl
 | 1,hj=>simp at hj;subst hj;rw[aa h2];rfl
 | 2,hj=>simp at hj;subst hj;rw[aa h2];rfl
 | j+3,hj=>simp at hj
def Rv:Obj:=.cells #[.pointer none,.pointer none] 86 (0,0)
theorem dX.begin {w0 w:World} {yb:Nat} {vals:List Vl} {ps:List Nat} {fuel:Nat} {st:cu} {nv:Value} (h:dX w0 w yb vals ps fuel st nv) (m:Nat) :
  dX w0 (((w.drewN m).setCell ⟨yb,2,none⟩ (.int .i64 ((st.steps:Int)+1))).alloc Rv) yb vals ps fuel { st with steps:=st.steps+1 } nv/\du w (((w.drewN m).setCell ⟨yb,2,none⟩ (.int .i64 ((st.steps:Int)+1))).alloc Rv) yb nv nv :=
 ⟨((h.grow (dx w m)).set 2 _ (by simp[dU])).grow (bg (Below.refl _ _) _),(du.setAt w yb nv m 2 _).trans (du.below (bg (Below.refl _ _) _) _ _)⟩
theorem Lp (w:World) (m:Nat) (p:Addr) (x:Value) (A O:Obj):((((w.drewN m).setCell p x).alloc A).alloc O).heap[w.heap.size+1]?=some O:=by
 have h:=aj (((w.drewN m).setCell p x).alloc A) O
 have e:(((w.drewN m).setCell p x).alloc A).heap.size=w.heap.size+1:=by simp[World.setCell,World.drewN]
 rw[e] at h;exact h
theorem Rw {w0:World} (yb fuel n:Nat) (vs:List Nat):Ev w0 yb fuel (.num n) vs:=by
 intro b vals ps st nv w hx hin bq hlen hs he hq;have hx':w0.heap[b]?=some (.cells (pF [] n (.slice none 0 0)) 59 (0,0)):=hx;have hb0:=af hx'
 have hne:b≠yb:=by have:=hin.ob.hyb;omega
 have hbx:=(hin.ob.b0.block b hb0).trans hx';have hb:=af hbx
 have x0:w.cell? ⟨b,0,none⟩=some (.string ⟨#[]⟩):=by rw[aa hbx];rfl
 have x1:w.cell? ⟨b,1,none⟩=some (.int .i64 n):=by rw[aa hbx];rfl
 have y1:w.cell? ⟨yb,1,none⟩=some (.int .i64 fuel):=by rw[aa hin.ob.y];rfl
 have y2:w.cell? ⟨yb,2,none⟩=some (.int .i64 st.steps):=by rw[aa hin.ob.y];rfl
 have y4:w.cell? ⟨yb,4,none⟩=some (.bool false):=by rw[aa hin.ob.y];simp[dU,he]
 have f2:w.frozen? ⟨yb,2,none⟩=false:=ag hin.ob.y 2;have nV:=af hin.ob.y
 have q1:((st.steps:Int)==(fuel:Int))=false:=by rw[beq_eq_false_iff_ne];omega
 have AK:=hs.s;have TU:=hs.f
 have rY:ev fuel ((KE.num n).pt []) (cP vals) st=(.n n,{ st with steps:=st.steps+1 }):=by
  simp only[KE.pt,ev];rw[j4 he hq,iP];rfl
 rw[rY]
 have AO:Hid _:=λm=>hin.begin m
 clear hx hx' hin bq hlen hs he hq rY hbx
 go_enter Tryz.func29,Tryz.ntmps29
 go_wp2
 go_quiet (fail)
 go_wp2
 go_ret
 exact⟨_,nv,rfl,(AO.out _).2.trans (du.below (bg (Below.refl _ _) _) _ _),(AO.out _).1.grow (bg (Below.refl _ _) _),Lp w _ _ _ _ _⟩
theorem Rx {w0:World} (yb fuel n:Nat) (vs:List Nat) (hn:n<vs.length) (hvl:vs.length<=101):Ev w0 yb fuel (.var n) vs:=by
 intro b vals ps st nv w hx hin bq hlen hs he hq;have hx':w0.heap[b]?=some (.cells (pF [120] n (.slice none 0 0)) 59 (0,0)):=hx;have hb0:=af hx'
 have hne:b≠yb:=by have:=hin.ob.hyb;omega
 have hbx:=(hin.ob.b0.block b hb0).trans hx';have hb:=af hbx
 have x0:w.cell? ⟨b,0,none⟩=some (.string ⟨#[120]⟩):=by rw[aa hbx];rfl
 have x1:w.cell? ⟨b,1,none⟩=some (.int .i64 n):=by rw[aa hbx];rfl
 have y1:w.cell? ⟨yb,1,none⟩=some (.int .i64 fuel):=by rw[aa hin.ob.y];rfl
 have y2:w.cell? ⟨yb,2,none⟩=some (.int .i64 st.steps):=by rw[aa hin.ob.y];rfl
 have y4:w.cell? ⟨yb,4,none⟩=some (.bool false):=by rw[aa hin.ob.y];simp[dU,he]
 have f2:w.frozen? ⟨yb,2,none⟩=false:=ag hin.ob.y 2;have nV:=af hin.ob.y
 have q1:((st.steps:Int)==(fuel:Int))=false:=by rw[beq_eq_false_iff_ne];omega
 have AK:=hs.s;have TU:=hs.f;have qP:=hlen ▸ hn
 have xk:n<ps.length:=by rw[hin.len];exact qP
 have rY:ev fuel ((KE.var n).pt []) (cP vals) st=(vals[n],{ st with steps:=st.steps+1 }):=by
  simp only[KE.pt,ev];rw[j4 he hq,La vals n qP (by omega)]
 rw[rY];obtain⟨na,nc,Lq,_,aO⟩:=hin.ob.shape;rw[fS] at Lq aO;obtain⟨g,hg⟩:=aO (by omega);rw[hg] at Lq
 have y0:w.cell? ⟨yb,0,none⟩=some (.slice (some ⟨g,0,none⟩) ps.length nc):=by rw[aa hin.ob.y,<- Lq];rfl
 have hgc:w.cell? ⟨g,n,none⟩=some (.pointer (some ⟨ps[n],0,none⟩)):=by
  have ho:=hin.ob.n;rw[Lq,fS] at ho;rw[World.ownsRow.cellAt ho n (by omega)];unfold oP;rw[List.getElem?_map,List.getElem?_eq_getElem xk];rfl
 have hgl:g<w.heap.size:=World.block_lt_of_cell? _ _ hgc
 have TH:g≠yb:=by intro e;exact hin.ob.ny (by rw[Lq,e];rfl)
 have Lr:=hin.v n vals[n] ps[n] (List.getElem?_eq_getElem qP) (List.getElem?_eq_getElem xk)
 have AO:Hid _:=λm=>hin.begin m
 have HOB:Hid _:=hin.ob;have HKV:Hid _:=Lr;generalize hpn:ps[n]=pn at *;clear hx hx' hin bq hlen hs he hq rY hbx Lq aO hg Lr hpn
 go_enter Tryz.func29,Tryz.ntmps29
 go_wp2
 go_quiet (fail)
 go_wp2
 go_quiet (fail)
 go_wp2
 go_ret
 exact⟨_,nv,rfl,(AO.out _).2.trans (du.below (dx _ _) _ _),(AO.out _).1.grow (dx _ _),(HKV.out.fr HOB.out (AO.out _).2).below (dx _ _)⟩
end Go.Proofs.YtpicaknklgccoabGreatDoor
