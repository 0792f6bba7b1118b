import Derived.Test.YtpicaknklgccoabGreatDoorS35
set_option maxHeartbeats 2000000
namespace Go.Proofs.YtpicaknklgccoabGreatDoor
open Go.Lib (decDigits)
mutual
theorem fR:∀ (e:PT) {G:aQ} {T:Ty},mw G e.np T->mw G e T
 | .num _ _,_,_,h=>by cases h with | num h=>exact .num h
 | .name _ _,_,_,h=>by cases h with | name h=>exact .name h
 | .node p k nm rg kids,G,T,h=>by
  match kids with
  | []=>simp only [PT.np,eX] at h;cases h
  | [a] =>
   simp only [PT.np,eX] at h
   cases h with
   | fst h=>exact .fst (fR a h)
   | snd h=>exact .snd (fR a h)
   | new h hm=>exact .new (fR a h) hm
  | [a,b] =>
   simp only [PT.np,eX] at h
   cases h with
   | aT h1 h2=>exact .aT (fR a h1) (fR b h2)
   | pair hr h1 h2=>exact .pair hr (fR a h1) (fR b h2)
   | two hk h1 h2=>exact .two hk (fR a h1) (fR b h2)
  | [a,b,c] =>
   simp only [PT.np,eX] at h
   cases h with
   | dQ h1 h2 h3=>exact .dQ (fR a h1) (fR b h2) (fR c h3)
   | loop h1 h2 h3=>exact .loop (fR a h1) (fR b h2) (fR c h3)
  | _::_::_::_::_=>simp only [PT.np,eX] at h;cases h
end
mutual
theorem Gx {b:Bool}:∀ e:PT,e.np.ok b->e.ok b
 | .num _ _,h=>h
 | .name _ _,h=>h
 | .node _ k nm rg kids,h=>by
  simp only [PT.np,PT.ok,Ef] at h ⊢
  exact ⟨h.1,h.2.1,h.2.2.1,h.2.2.2.1,IL kids h.2.2.2.2⟩
theorem IL {b:Bool}:∀ l:List PT,qx b (eX l)->qx b l
 | [],h=>h
 | t::r,h=>by
  simp only [eX,qx] at h ⊢
  exact ⟨Gx t h.1,IL r h.2⟩
theorem Ef:∀ l:List PT,(eX l).length=l.length
 | []=>rfl
 | t::r=>by simp only [eX,List.length_cons,Ef r]
end
mutual
theorem jE (fuel:Nat) (regs news:List Int):∀ (e:PT) (b:Nat) (env:dL) (st:bY),cS e->e.bL->ev fuel (e.eU regs news b).era env st=ev fuel e env st
 | .num p s,_,env,st,_,ht=>by
  simp only [PT.bL] at ht
  simp only [PT.eU,PT.era,ev]
  rw [jw,Int.toNat_of_nonneg ht.1]
 | .name _ _,_,_,_,_,_=>rfl
 | .node _ k nm rg kids,b,env,st,hn,ht=>by
  cases hn with
  | node hk hn =>
  simp only [PT.bL] at ht
  simp only [PT.eU,PT.era,if_neg hk,ev]
  congr 1
  funext st
  rw [KD fuel regs news nm kids b env st hn ht.2,Og fuel regs news kids b env st hn ht.2,Gy fuel regs news nm kids b env st hn ht.2,yu fuel regs news kids b env st hn ht.2]
theorem yu (fuel:Nat) (regs news:List Int):∀ (l:List PT) (b:Nat) (env:dL) (st:bY),(∀ x∈l,cS x)->bI l->bO fuel (gC (gD regs news l b)) env st=bO fuel l env st
 | [],_,_,_,_,_=>rfl
 | t::r,b,env,st,hn,ht=>by
  simp only [bI] at ht
  simp only [gD,gC,jA,bO,jE fuel regs news t b env st (hn t (by simp)) ht.1]
  simp only [yu fuel regs news r (b+t.cnt) _ _ (fun x hx=>hn x (by simp [hx])) ht.2]
theorem KD (fuel:Nat) (regs news:List Int) (nm:List UInt8):∀ (l:List PT) (b:Nat) (env:dL) (st:bY),(∀ x∈l,cS x)->bI l->iC fuel nm (gC (gD regs news l b)) env st=iC fuel nm l env st
 | [],_,_,_,_,_=>rfl
 | [_],_,_,_,_,_=>rfl
 | [x,y],b,env,st,hn,ht=>by
  simp only [bI] at ht
  simp only [gD,gC,jA,iC]
  simp only [jE fuel regs news x _ _ _ (hn x (by simp)) ht.1,jE fuel regs news y _ _ _ (hn y (by simp)) ht.2.1]
 | _::_::_::_,_,_,_,_,_=>rfl
theorem Og (fuel:Nat) (regs news:List Int):∀ (l:List PT) (b:Nat) (env:dL) (st:bY),(∀ x∈l,cS x)->bI l->mD fuel (gC (gD regs news l b)) env st=mD fuel l env st
 | [],_,_,_,_,_=>rfl
 | [_],_,_,_,_,_=>rfl
 | [_,_],_,_,_,_,_=>rfl
 | [x,y,z],b,env,st,hn,ht=>by
  simp only [bI] at ht
  simp only [gD,gC,jA,mD]
  simp only [jE fuel regs news x _ _ _ (hn x (by simp)) ht.1,jE fuel regs news y _ _ _ (hn y (by simp)) ht.2.1,jE fuel regs news z _ _ _ (hn z (by simp)) ht.2.2.1]
 | _::_::_::_::_,_,_,_,_,_=>rfl
theorem Gy (fuel:Nat) (regs news:List Int) (nm:List UInt8):∀ (l:List PT) (b:Nat) (env:dL) (st:bY),(∀ x∈l,cS x)->bI l->ez fuel nm (gC (gD regs news l b)) env st=ez fuel nm l env st
 | [],_,_,_,_,_=>rfl
 | [_],_,_,_,_,_=>rfl
 | [_,_],_,_,_,_,_=>rfl
 | [x,y,z],b,env,st,hn,ht=>by
  simp only [bI] at ht
  simp only [gD,gC,jA,ez]
  simp only [jE fuel regs news x _ _ _ (hn x (by simp)) ht.1,jE fuel regs news y _ _ _ (hn y (by simp)) ht.2.1,jE fuel regs news z _ _ _ (hn z (by simp)) ht.2.2.1]
 | _::_::_::_::_,_,_,_,_,_=>rfl
end
def BU (news:List Int) (lo hi:Nat):Nat:=(news.filter (fun a=>decide ((lo:Int)<=a) && decide (a < (hi:Int)))).length
theorem yx (news:List Int) {a b c:Nat} (h1:a<=b) (h2:b<=c):BU news a c=BU news a b+BU news b c:=by
 unfold BU
 induction news with
 | nil=>rfl
 | cons x r ih =>
  simp only [List.filter_cons]
  by_cases g1:(a:Int)<=x
  ·by_cases g2:x < (b:Int)
   ·have e1:¬ (b:Int)<=x:=by omega
    have e2:x < (c:Int):=by omega
    simp only [g1,g2,e1,e2,decide_true,decide_false,Bool.and_self,Bool.false_and,if_true,Bool.false_eq_true,if_false,List.length_cons]
    omega
   ·have e1:(b:Int)<=x:=by omega
    by_cases g3:x < (c:Int)
    ·simp only [g1,g2,e1,g3,decide_true,decide_false,Bool.and_self,Bool.and_false,if_true,Bool.false_eq_true,if_false,List.length_cons]
     omega
    ·simp only [g1,g2,e1,g3,decide_true,decide_false,Bool.and_false,Bool.false_eq_true,if_false]
     exact ih
  ·have e1:¬ (b:Int)<=x:=by omega
   simp only [g1,e1,decide_false,Bool.false_and,Bool.false_eq_true,if_false]
   exact ih
theorem Oh (news:List Int) (i:Nat):BU news i (i+1)=rV news i:=by
 unfold BU rV
 congr 1
 apply List.filter_congr
 intro x _
 by_cases h:x=(i:Int)
 ·subst h;simp;omega
 ·have:(x == (i:Int))=false:=by rw [beq_eq_false_iff_ne];exact h
  rw [this,Bool.and_eq_false_iff]
  by_cases g:(i:Int)<=x
  ·right;simp;omega
  ·left;simp;omega
theorem Rs (news:List Int) (lo hi:Nat):BU news lo hi<=news.length:=List.length_filter_le _ _
theorem Oi (i:Int):∀ (l:List Int) (r:Nat),r+l.length<=9999->(rU l r i).length<=11 * rV l i
 | [],_,_=>by simp [rU]
 | a::l,r,h=>by
  simp only [List.length_cons] at h
  have h1:=Oi i l (r+1) (by omega)
  have h2:=He r (by omega)
  unfold rV at h1 ⊢
  simp only [rU,List.length_append,List.filter_cons]
  by_cases e:a=i
  ·have:(a == i)=true:=by simp [e]
   rw [if_pos e,this]
   simp only [if_true,List.length_cons];omega
  ·have:(a == i)=false:=by rw [beq_eq_false_iff_ne];exact e
   rw [if_neg e,this]
   simp only [List.length_nil,Bool.false_eq_true,if_false];omega
theorem Gz (k:Kw) (nm:List UInt8):∀ (l l':List (List UInt8)) (i B:Nat),l.length=l'.length->(l.map List.length).sum<=(l'.map List.length).sum+B->(bn k nm i l).length<=(bn k nm i l').length+B
 | [],[],_,_,_,_=>by simp [bn]
 | [],_::_,_,_,h,_=>by simp at h
 | _::_,[],_,_,h,_=>by simp at h
 | x::r,y::s,i,B,h,hb=>by
  simp only [List.length_cons,Nat.add_right_cancel_iff] at h
  have key:∀ (a b:List (List UInt8)) (j:Nat),a.length=b.length->(bn k nm j a).length+(b.map List.length).sum=(bn k nm j b).length+(a.map List.length).sum:=by
   intro a
   induction a with
   | nil=>intro b j hl;cases b with | nil=>rfl | cons _ _=>simp at hl
   | cons u v ih =>
    intro b j hl
    cases b with
    | nil=>simp at hl
    | cons w z =>
     have:=ih z (j+1) (by simpa using hl)
     simp only [bn,List.map_cons,List.sum_cons,List.length_append,bP]
     simp only [List.length_cons] at *
     omega
  have:=key (x::r) (y::s) i (by simp [h])
  omega
mutual
theorem Oj {regs news:List Int} (hr:∀ i,jJ regs i<=9999) (hn:news.length<=150) {ns:List NR} (H:Pu regs ns):∀ (t:PT) (b:Nat),fG ns t b->cS t->(t.vF regs news b).length<=t.lO.length+6 * t.bK+12 * BU news b (b+t.cnt - 1)
 | .num _ _,_,_,_=>by simp only [PT.vF,PT.lO];omega
 | .name _ _,_,_,_=>by simp only [PT.vF,PT.lO];omega
 | .node p k nm rg kids,b,hs,hw=>by
  cases hw with
  | node hk hw =>
  simp only [fG] at hs
  obtain ⟨⟨n,eK,hf,_⟩,hks⟩:=hs
  have h1:=uj hr hn H kids b hks hw
  have h2:(LX regs (b+az kids)).length<=6 * (if k=.pair then 1 else 0):=by
   by_cases hp:k=.pair
   ·rw [if_pos hp];exact Be regs _ (hr _)
   ·have:=(H _ _ eK).2 (fun e=>hp ((Iv k).1 (hf ▸ e)))
    unfold LX
    rw [if_pos this];simp
  have h3:=Gz k nm (gz regs news kids b) (ig kids) 0 _ (by rw [oq,CN]) h1
  simp only [PT.vF,PT.lO,if_neg hk,PT.bK,PT.cnt,List.length_cons,List.length_append,List.length_nil]
  rw [show b+(1+az kids) - 1=b+az kids by omega]
  omega
theorem uj {regs news:List Int} (hr:∀ i,jJ regs i<=9999) (hn:news.length<=150) {ns:List NR} (H:Pu regs ns):∀ (ts:List PT) (b:Nat),fM ns ts b->(∀ x∈ts,cS x)->((gz regs news ts b).map List.length).sum<=((ig ts).map List.length).sum+(6 * iX ts+12 * BU news b (b+az ts))
 | [],b,_,_=>by simp [gz,ig]
 | t::r,b,hs,hw=>by
  simp only [fM] at hs
  have h1:=Oj hr hn H t b hs.1 (hw t (by simp))
  have h2:=uj hr hn H r (b+t.cnt) hs.2 (fun x hx=>hw x (by simp [hx]))
  have hc:=cH t
  have Nf:(((b+t.cnt:Nat):Int) - 1)=((b+t.cnt - 1:Nat):Int):=by omega
  have h3:=Oi ((b+t.cnt - 1:Nat):Int) news 0 (by omega)
  have h4:=Oh news (b+t.cnt - 1)
  rw [show b+t.cnt - 1+1=b+t.cnt by omega] at h4
  have h5:=yx news (a:=b) (b:=b+t.cnt - 1) (c:=b+t.cnt) (by omega) (by omega)
  have h6:=yx news (a:=b) (b:=b+t.cnt) (c:=b+t.cnt+az r) (by omega) (by omega)
  simp only [gz,ig,List.map_cons,List.sum_cons,iX,az,List.length_append,Nf,R7,List.length_replicate]
  rw [show b+(t.cnt+az r)=b+t.cnt+az r by omega]
  omega
end
theorem Ok {regs news:List Int} (hr:∀ i,jJ regs i<=9999) (hn:news.length<=150) {ns:List NR} (H:Pu regs ns) (t:PT) (hs:fG ns t 0) (hw:cS t):(t.u7 regs news 0).length<=t.lO.length+6 * t.bK+12 * news.length:=by
 have h1:=uj hr hn H [t] 0 (by simp only [fM,and_true];exact hs) (by simpa using hw)
 have h2:=Rs news 0 (0+az [t])
 simp only [gz,ig,List.map_cons,List.map_nil,List.sum_cons,List.sum_nil,iX,Nat.add_zero] at h1
 unfold PT.u7
 omega
theorem Ol {rg:List UInt8}:∀ {vs:List Nat} {x:KE} {t:Nat},KT vs x t->(x.pt rg).lO=(x.pt []).tidy:=by
 intro vs x t h
 induction h with
 | num h=>simp [KE.pt,PT.lO,PT.tidy,jw]
 | var _=>simp [KE.pt,PT.lO,PT.tidy]
 | aT _ _ _ _ ha hb=>simp [KE.pt,PT.lO,ig,PT.tidy,ct,fP,ha,hb]
 | dQ _ _ _ ha hb hc=>simp [KE.pt,PT.lO,ig,PT.tidy,ct,fP,ha,hb,hc]
 | loop _ _ _ _ ha hb hc=>simp [KE.pt,PT.lO,ig,PT.tidy,ct,fP,ha,hb,hc]
 | pair _ _ _ _ ha hb=>simp [KE.pt,PT.lO,ig,PT.tidy,ct,fP,ha,hb]
 | fst _ _ _ ha=>simp [KE.pt,PT.lO,ig,PT.tidy,ct,fP,ha]
 | snd _ _ _ ha=>simp [KE.pt,PT.lO,ig,PT.tidy,ct,fP,ha]
 | two hk _ _ ha hb=>rcases hk with rfl | rfl | rfl <;> simp [KE.pt,PT.lO,ig,PT.tidy,ct,fP,ha,hb]
theorem Rt {x:KE} {t:Nat} (h:KT [] x t) (jj:x.bK<=75) (hlen:x.len<=1308) {e:PT} {ns:List NR} {n0:NR} (tu:e.np=x.pt []) (iG:e.bL) (hnn:cS e) (hN:Nds e ns n0) (hL:Eb (gh e ns n0) (gi e ns n0) ns (uh e ns n0)) :
  ∃ e2 T',PE true (tokens (e.u7 (gh e ns n0) (gi e ns n0) 0)) e2 []/\cC e2=(0,0)/\WT [] e2 (tr t)/\mw [] e2 T'/\(∀ f,ev f e2.era [] ⟨0,0,0⟩=ev f (x.pt []) [] ⟨0,0,0⟩)/\(e.u7 (gh e ns n0) (gi e ns n0) 0).length<=9000/\e2.np=e.lay (gh e ns n0) (gi e ns n0) 0:=by
 have Gv:e.bK<=75:=by rw [<- tZ,tu,F7 _ h];exact jj
 have hfl:=yq (n0:=n0) hN.na
 have kN:(gi e ns n0).length<=75:=by unfold gi gT;rw [List.length_map,List.length_range];omega
 obtain ⟨hb1,hb2⟩:=II e ns n0 (by omega)
 have D1:WT [] e (tr t):=gW e (by rw [tu];exact Ih h (by simp))
 have hok:e.ok false:=Gx e (by rw [tu];exact Nq (ae:=false) rfl h)
 have SQ:=hN.na.wN
 have Ru:=N0 hL.pr (show (gi e ns n0).length<=999 by omega) e 0 SQ iG hok
 obtain ⟨e2,hpe,he2⟩:=BC _ Ru
 rw [NZ] at he2
 rw [D5 _ _ e 0 hnn] at hpe
 have Om:WT [] e2 (tr t):=gW e2 (by rw [he2];exact N7 D1 hnn 0)
 obtain ⟨hwr,_⟩:=ID hL D1 hnn iG [] [] 0 [] ns [] hN.na (by simp) rfl (fun s U hs=>by simp [look] at hs)
 refine ⟨e2,_,hpe,Ge Om ?_,Om,fR e2 (by rw [he2];exact hwr),fun f=>?_,?_,he2⟩
 ·rw [<- tZ,he2,IA];omega
 ·rw [<- lV,BQ,he2]
  unfold PT.lay
  rw [jA,jE f _ _ e 0 [] _ hnn iG,<- lV,tu]
 ·have h1:=Ok hb1 (show (gi e ns n0).length<=150 by omega) hL.pr e SQ hnn
  have h2:e.lO.length<=1308+75 * 1:=by
   rw [<- BS,tu,Ol h]
   have:=F8 (rg:=[]) h
   simp at this;omega
  omega
mutual
def cg:List Int->PT->Prop
 | _,.num _ _=>True
 | _,.name _ _=>True
 | rs,.node _ k _ rg kids=>(k=.pair->aq rg∈rs)/\cV (if k=.new then aq rg::rs else rs) kids
def cV:List Int->List PT->Prop
 | _,[]=>True
 | rs,t::r=>cg rs t/\cV rs r
end
theorem AO {l:List MR} {k:Int}:∀ (n i:Nat) (g:MR),1<=i->i<=n->l[i]?=some g->g.num=k->1<=iI l k n
 | 0,i,g,h1,h2,_,_=>by omega
 | n+1,i,g,h1,h2,hg,hk=>by
  simp only [iI]
  split
  ·omega
  ·rename_i hne
   refine AO n i g h1 ?_ hg hk
   rcases Nat.lt_succ_iff_lt_or_eq.1 (Nat.lt_succ_of_le h2) with h | h
   ·omega
   ·exfalso;apply hne;rw [<- h,hg];simp [hk]
inductive Cm (f:Int->Int) (NP NQ:List Int):List Int->List Int->PT->PT->Prop
 | num {rp rq:List Int} {p q:Nat} {s s':List UInt8} (h:aq s=aq s'):Cm f NP NQ rp rq (.num p s) (.num q s')
 | name {rp rq:List Int} {p q:Nat} {s:List UInt8}:Cm f NP NQ rp rq (.name p s) (.name q s)
 | aT {rp rq:List Int} {p q:Nat} {nm rg sQ:List UInt8} {a b a' b':PT} (ha:Cm f NP NQ rp rq a a') (hb:Cm f NP NQ rp rq b b'):Cm f NP NQ rp rq (.node p .aT nm rg [a,b]) (.node q .aT nm sQ [a',b'])
 | pair {rp rq:List Int} {p q:Nat} {nm Ak rg sQ:List UInt8} {a b a' b':PT} (hr:aq rg∈rp\/aq rg∈NP) (hr':f (aq rg)∈rq\/f (aq rg)∈NQ) (he:f (aq rg)=aq sQ) (ha:Cm f NP NQ rp rq a a') (hb:Cm f NP NQ rp rq b b'):Cm f NP NQ rp rq (.node p .pair nm rg [a,b]) (.node q .pair Ak sQ [a',b'])
 | fst {rp rq:List Int} {p q:Nat} {nm Ak rg sQ:List UInt8} {a a':PT} (ha:Cm f NP NQ rp rq a a'):Cm f NP NQ rp rq (.node p .fst nm rg [a]) (.node q .fst Ak sQ [a'])
 | snd {rp rq:List Int} {p q:Nat} {nm Ak rg sQ:List UInt8} {a a':PT} (ha:Cm f NP NQ rp rq a a'):Cm f NP NQ rp rq (.node p .snd nm rg [a]) (.node q .snd Ak sQ [a'])
 | dQ {rp rq:List Int} {p q:Nat} {nm Ak rg sQ:List UInt8} {a b c a' b' c':PT} (ha:Cm f NP NQ rp rq a a') (hb:Cm f NP NQ rp rq b b') (hc:Cm f NP NQ rp rq c c'):Cm f NP NQ rp rq (.node p .dQ nm rg [a,b,c]) (.node q .dQ Ak sQ [a',b',c'])
 | two {rp rq:List Int} {p q:Nat} {k:Kw} {nm Ak rg sQ:List UInt8} {a b a' b':PT} (hk:k=.add\/k=.sub\/k=.less) (ha:Cm f NP NQ rp rq a a') (hb:Cm f NP NQ rp rq b b'):Cm f NP NQ rp rq (.node p k nm rg [a,b]) (.node q k Ak sQ [a',b'])
 | loop {rp rq:List Int} {p q:Nat} {nm rg sQ:List UInt8} {a b c a' b' c':PT} (ha:Cm f NP NQ rp rq a a') (hb:Cm f NP NQ rp rq b b') (hc:Cm f NP NQ rp rq c c'):Cm f NP NQ rp rq (.node p .loop nm rg [a,b,c]) (.node q .loop nm sQ [a',b',c'])
 | Oo {rp rq:List Int} {p:Nat} {nm rg:List UInt8} {a t':PT} (hk:aq rg ∉ rp) (hn:aq rg ∉ NP) (ha:Cm f NP NQ (rp++[aq rg]) rq a t'):Cm f NP NQ rp rq (.node p .new nm rg [a]) t'
 | Rv {rp rq:List Int} {q:Nat} {nm rg:List UInt8} {t a':PT} (hk:aq rg ∉ rq) (hn:aq rg ∉ NQ) (hx:∀ x,x∈rp\/x∈NP->f x≠aq rg) (ha:Cm f NP NQ rp (rq++[aq rg]) t a'):Cm f NP NQ rp rq t (.node q .new nm rg [a'])
theorem Cm.wt {f:Int->Int} {NP NQ rp rq:List Int} {t t':PT} (h:Cm f NP NQ rp rq t t'):∀ {G:aQ} {T:Ty},WT G t T->WT G t' T:=by
 induction h with
 | num h=>intro G T hw;cases hw;exact .num
 | name=>intro G T hw;cases hw with | name h=>exact .name h
 | aT _ _ aM bH=>intro G T hw;cases hw with | aT wa wb=>exact .aT (aM wa) (bH wb) | two hk=>simp at hk
 | pair _ _ _ _ _ aM bH=>intro G T hw;cases hw with | pair wa wb hs=>exact .pair (aM wa) (bH wb) hs | two hk=>simp at hk
 | fst _ aM=>intro G T hw;cases hw with | fst wa=>exact .fst (aM wa)
 | snd _ aM=>intro G T hw;cases hw with | snd wa=>exact .snd (aM wa)
 | dQ _ _ _ aM bH gL=>intro G T hw;cases hw with | dQ wa wb wc=>exact .dQ (aM wa) (bH wb) (gL wc)
 | two hk _ _ aM bH =>
  intro G T hw
  cases hw with
  | two _ wa wb=>exact .two hk (aM wa) (bH wb)
  | aT _ _=>simp at hk
  | pair _ _ _=>simp at hk
 | loop _ _ _ aM bH gL=>intro G T hw;cases hw with | loop wa wb wc=>exact .loop (aM wa) (bH wb) (gL wc)
 | Oo _ _ _ aM=>intro G T hw;cases hw with | new wa=>exact aM wa
 | Rv _ _ _ _ aM=>intro G T hw;exact .new (aM hw)
theorem s8 {fuel p q:Nat} {k:Kw} {nm Ak rg sQ:List UInt8} {kids uQ:List PT} (h1:k≠.aT) (h2:k≠.dQ) (h3:k≠.loop) (h:bO fuel uQ=bO fuel kids):ev fuel (.node q k Ak sQ uQ)=ev fuel (.node p k nm rg kids):=by
 funext env st
 simp only [ev,if_neg h1,if_neg h2,if_neg h3]
 rw [h]
theorem Cm.SR {f:Int->Int} {NP NQ rp rq:List Int} {t t':PT} (fuel:Nat) (h:Cm f NP NQ rp rq t t'):ev fuel t'.era=ev fuel t.era:=by
 induction h with
 | num h=>funext env st;simp only [PT.era,ev,h]
 | name=>funext env st;simp only [PT.era,ev]
 | aT _ _ aM bH=>funext env st;simp only [PT.era,gC,reduceCtorEq,if_false,ev,iC,if_true,aM,bH]
 | pair _ _ _ _ _ aM bH =>
  simp only [PT.era,gC,reduceCtorEq,if_false]
  exact s8 (by decide) (by decide) (by decide) (by funext env st;simp only [bO,aM,bH])
 | fst _ aM =>
  simp only [PT.era,gC,reduceCtorEq,if_false]
  exact s8 (by decide) (by decide) (by decide) (by funext env st;simp only [bO,aM])
 | snd _ aM =>
  simp only [PT.era,gC,reduceCtorEq,if_false]
  exact s8 (by decide) (by decide) (by decide) (by funext env st;simp only [bO,aM])
 | dQ _ _ _ aM bH gL=>funext env st;simp only [PT.era,gC,reduceCtorEq,if_false,ev,mD,if_true,aM,bH,gL]
 | two hk _ _ aM bH =>
  rcases hk with rfl | rfl | rfl
  all_goals
   simp only [PT.era,gC,reduceCtorEq,if_false]
   exact s8 (by decide) (by decide) (by decide) (by funext env st;simp only [bO,aM,bH])
 | loop _ _ _ aM bH gL=>funext env st;simp only [PT.era,gC,reduceCtorEq,if_false,ev,ez,if_true,aM,bH,gL]
 | Oo _ _ _ aM=>rw [aM];simp only [PT.era,gC,if_true,List.headD_cons]
 | Rv _ _ _ _ aM=>simp only [PT.era,gC,if_true,List.headD_cons];exact aM
structure Jm (m:MM) (rs M:List Int):Prop where
 len:m.regs.length=rs.length+1
 Oq:(m.regs.drop 1).map (·.num)=rs
 nd:rs.Nodup
 live:m.live=M.length
 cells:∀ (i:Nat) (g:MR),1<=i->m.regs[i]?=some g->g.cells=M.count g.num
theorem Jm.of {m m':MM} {rs M:List Int} (h:Jm m rs M) (h1:m'.regs=m.regs) (h2:m'.live=m.live):Jm m' rs M:=⟨by rw [h1];exact h.len,by rw [h1];exact h.Oq,h.nd,by rw [h2];exact h.live,by rw [h1];exact h.cells⟩
theorem Jm.at {m:MM} {rs M:List Int} (h:Jm m rs M) {i:Nat} {g:MR} (hi:m.regs[i+1]?=some g):rs[i]?=some g.num:=by
 rw [<- h.Oq,List.getElem?_map,List.getElem?_drop,show 1+i=i+1 by omega,hi];rfl
theorem Jm.opn {m:MM} {rs M:List Int} (h:Jm m rs M) {k:Int} (hk:k ∉ rs) (hM:k ∉ M):Jm (m.opn k) (rs++[k]) M:=by
 have hl:=h.len
 refine ⟨by simp [MM.opn,hl],?_,?_,h.live,fun i g hi hg=>?_⟩
 ·simp only [MM.opn]
  rw [List.drop_append_of_le_length (by omega),List.map_append,h.Oq];rfl
 ·rw [List.nodup_append]
  refine ⟨h.nd,by simp,fun a ha b hb=>?_⟩
  simp only [List.mem_singleton] at hb
  intro e
  exact hk (by rw [<- hb,<- e];exact ha)
 ·simp only [MM.opn] at hg
  by_cases hlt:i < m.regs.length
  ·rw [List.getElem?_append_left hlt] at hg
   exact h.cells i g hi hg
  ·have lN:=(List.getElem?_eq_some_iff.1 hg).1
   simp only [List.length_append,List.length_singleton] at lN
   have:i=m.regs.length:=by omega
   subst this
   rw [List.getElem?_append_right (Nat.le_refl _),Nat.sub_self] at hg
   simp only [List.getElem?_cons_zero,Option.some.injEq] at hg
   subst hg
   exact (List.count_eq_zero.2 hM).symm
theorem Jm.fin {m:MM} {rs M:List Int} {k:Int} (h:Jm m (rs++[k]) M):Jm m.fin rs (M.filter (fun x=>decide (x≠k))):=by
 have hl:=h.len
 simp only [List.length_append,List.length_singleton] at hl
 have hlt:rs.length+1 < m.regs.length:=by omega
 have hg:m.regs[rs.length+1]?=some m.regs[rs.length+1]:=List.getElem?_eq_getElem hlt
 have hgk:(m.regs[rs.length+1]).num=k:=by
  have:=h.at hg
  rw [List.getElem?_append_right (Nat.le_refl _),Nat.sub_self] at this
  simpa using this.symm
 have hlast:m.regs.getLast?=some m.regs[rs.length+1]:=by
  rw [List.getLast?_eq_getElem?,show m.regs.length - 1=rs.length+1 by omega];exact hg
 have jL:=h.cells (rs.length+1) _ (by omega) hg
 rw [hgk] at jL
 have hnd:=h.nd
 rw [List.nodup_append] at hnd
 have hfl:(M.filter (fun x=>decide (x≠k))).length+M.count k=M.length:=by
  clear jL h
  induction M with
  | nil=>rfl
  | cons x r ih =>
   simp only [List.filter_cons,List.count_cons,List.length_cons]
   by_cases e:x=k
   ·have e1:decide (x≠k)=false:=by simp [e]
    have e2:(x == k)=true:=by simp [e]
    rw [e1,e2]
    simp only [Bool.false_eq_true,if_false,if_true];omega
   ·have e1:decide (x≠k)=true:=by simp [e]
    have e2:(x == k)=false:=by rw [beq_eq_false_iff_ne];exact e
    rw [e1,e2]
    simp only [Bool.false_eq_true,if_false,if_true,List.length_cons];omega
 have abx:=h.live
 unfold MM.fin
 rw [hlast]
 refine ⟨by simp;omega,?_,hnd.1,by simp only;omega,fun i g hi E3=>?_⟩
 ·simp only
  have:=h.Oq
  rw [List.dropLast_eq_take,List.drop_take,List.map_take,this,show m.regs.length - 1 - 1=rs.length by omega,List.take_left]
 ·simp only at E3
  rw [List.getElem?_dropLast] at E3
  split at E3
  ·obtain ⟨j,rfl⟩:∃ j,i=j+1:=⟨i - 1,by omega⟩
   have hn:=h.at E3
   rw [List.getElem?_append_left (by omega)] at hn
   have hne:g.num≠k:=fun e=>hnd.2.2 g.num (List.mem_of_getElem? hn) k (by simp) e
   rw [h.cells _ _ hi E3]
   rw [List.count_filter (by simp [hne])]
  ·cases E3
theorem Jm.cell {m:MM} {rs M:List Int} (h:Jm m rs M) (k:Int) (a b:MV):Jm (m.aX k a b).2 rs (k::M)/\(m.aX k a b).2.most=(if m.most < m.live+1 then m.live+1 else m.most):=by
 have hl:=h.len
 have La:m.home k < m.regs.length:=by
  have:=ue m.regs k (m.regs.length - 1)
  unfold MM.home;omega
 have hg:m.regs[m.home k]?=some m.regs[m.home k]:=List.getElem?_eq_getElem La
 have hn:=yh m.regs k (m.regs.length - 1)
 unfold MM.aX
 rw [hg]
 refine ⟨⟨by simp [hl],?_,h.nd,?_,fun i g hi E3=>?_⟩,rfl⟩
 ·simp only
  rw [<- h.Oq]
  apply List.ext_getElem?
  intro j
  simp only [List.getElem?_map,List.getElem?_drop]
  by_cases hj:m.home k=1+j
  ·rw [<- hj,List.getElem?_set_self La,hg];rfl
  ·rw [List.getElem?_set_ne hj]
 ·simp only [List.length_cons];rw [h.live];omega
 ·simp only at E3
  by_cases hj:m.home k=i
  ·subst hj
   rw [List.getElem?_set_self La] at E3
   simp only [Option.some.injEq] at E3
   subst E3
   have hk:(m.regs[m.home k]).num=k:=by
    rcases hn with hn | hn
    ·have:m.regs[m.home k]?.map (·.num)=some k:=hn
     rw [hg] at this;simpa using this
    ·have:m.home k=0:=hn
     omega
   simp only
   rw [hk,List.count_cons_self,h.cells _ _ hi hg,hk]
  ·rw [List.getElem?_set_ne hj] at E3
   have hne:g.num≠k:=by
    intro e
    have hp:1<=m.home k:=AO _ i g hi (by have:=(List.getElem?_eq_some_iff.1 E3).1;omega) E3 e
    have hk:(m.regs[m.home k]).num=k:=by
     rcases hn with hn | hn
     ·have:m.regs[m.home k]?.map (·.num)=some k:=hn
      rw [hg] at this;simpa using this
     ·have:m.home k=0:=hn
      omega
    obtain ⟨j,rfl⟩:∃ j,i=j+1:=⟨i - 1,by omega⟩
    obtain ⟨j',hj'⟩:∃ j',m.home k=j'+1:=⟨m.home k - 1,by omega⟩
    have h1:=h.at E3
    have h2:rs[j']?=some k:=by
     have:=h.at (i:=j') (g:=m.regs[m.home k]) (by rw [<- hj'];exact hg)
     rw [hk] at this;exact this
    rw [e] at h1
    have l1:=(List.getElem?_eq_some_iff.1 h1).1
    have:=(List.getElem?_inj l1 h.nd).1 (h1.trans h2.symm)
    omega
   rw [List.count_cons_of_ne (Ne.symm hne)]
   exact h.cells i g hi E3
structure Jt (f:Int->Int) (NP NQ rp rq:List Int) (m m':MM):Prop where
 ex:∃ L L':List Int,L.Sublist L'/\Jm m rp L/\Jm m' rq (L'.map f)/\(∀ x∈L,x∈rp\/x∈NP)/\(∀ x∈L',f x∈rq\/f x∈NQ)
 most:m.most<=m'.most
theorem Jt.of {f:Int->Int} {NP NQ rp rq:List Int} {m m' n n':MM} (h:Jt f NP NQ rp rq m m') (h1:n.regs=m.regs) (h2:n.live=m.live) (h3:n.most=m.most) (h1':n'.regs=m'.regs) (h2':n'.live=m'.live) (h3':n'.most=m'.most):Jt f NP NQ rp rq n n':=by
 obtain ⟨L,L',g1,g2,g3,g4,g5⟩:=h.ex
 exact ⟨⟨L,L',g1,g2.of h1 h2,g3.of h1' h2',g4,g5⟩,by rw [h3,h3'];exact h.most⟩
theorem kG (m:MM) (i:Int) (v:MV):(m.name i v).regs=m.regs/\(m.name i v).live=m.live/\(m.name i v).most=m.most:=by unfold MM.name;split <;> exact ⟨rfl,rfl,rfl⟩
theorem mM (m:MM) (v:MV):(m.use v).2.regs=m.regs/\(m.use v).2.live=m.live/\(m.use v).2.most=m.most:=by
 unfold MM.use MM.stop
 split
 ·exact ⟨rfl,rfl,rfl⟩
 ·simp only
  split
  ·exact ⟨rfl,rfl,rfl⟩
  ·split <;> exact ⟨rfl,rfl,rfl⟩
theorem Jt.name {f:Int->Int} {NP NQ rp rq:List Int} {m m':MM} (h:Jt f NP NQ rp rq m m') (i i':Int) (v v':MV):Jt f NP NQ rp rq (m.name i v) (m'.name i' v') :=
 h.of (kG m i v).1 (kG m i v).2.1 (kG m i v).2.2 (kG m' i' v').1 (kG m' i' v').2.1 (kG m' i' v').2.2
theorem Jt.use {f:Int->Int} {NP NQ rp rq:List Int} {m m':MM} (h:Jt f NP NQ rp rq m m') (v v':MV):Jt f NP NQ rp rq (m.use v).2 (m'.use v').2 :=
 h.of (mM m v).1 (mM m v).2.1 (mM m v).2.2 (mM m' v').1 (mM m' v').2.1 (mM m' v').2.2
theorem Jt.le {f:Int->Int} {NP NQ rp rq:List Int} {m m':MM} (h:Jt f NP NQ rp rq m m'):m.live<=m'.live:=by
 obtain ⟨L,L',g1,g2,g3,_,_⟩:=h.ex
 have:=g1.length_le
 rw [g2.live,g3.live,List.length_map];omega
theorem Jt.cell {f:Int->Int} {NP NQ rp rq:List Int} {m m':MM} (h:Jt f NP NQ rp rq m m') {k k':Int} (hk:k∈rp\/k∈NP) (hk':f k∈rq\/f k∈NQ) (e:f k=k') (a b a' b':MV):Jt f NP NQ rp rq (m.aX k a b).2 (m'.aX k' a' b').2:=by
 have hle:=h.le
 have hmo:=h.most
 obtain ⟨L,L',g1,g2,g3,g4,g5⟩:=h.ex
 obtain ⟨c1,c2⟩:=g2.cell k a b
 obtain ⟨d1,d2⟩:=g3.cell k' a' b'
 refine ⟨⟨k::L,k::L',g1.cons_cons k,c1,by rw [List.map_cons,e];exact d1,fun x hx=>?_,fun x hx=>?_⟩,?_⟩
 ·rcases List.mem_cons.1 hx with hx | hx
  ·rw [hx];exact hk
  ·exact g4 x hx
 ·rcases List.mem_cons.1 hx with hx | hx
  ·rw [hx];exact hk'
  ·exact g5 x hx
 ·rw [c2,d2]
  split <;> split <;> omega
theorem Jt.aa3 {f:Int->Int} {NP NQ rp rq:List Int} {m m':MM} (h:Jt f NP NQ rp rq m m') {k:Int} (hk:k ∉ rp) (hn:k ∉ NP):Jt f NP NQ (rp++[k]) rq (m.opn k) m':=by
 obtain ⟨L,L',g1,g2,g3,g4,g5⟩:=h.ex
 refine ⟨⟨L,L',g1,g2.opn hk (fun hx=>?_),g3,fun x hx=>?_,g5⟩,h.most⟩
 ·rcases g4 k hx with h | h
  ·exact hk h
  ·exact hn h
 ·rcases g4 x hx with h | h
  ·exact Or.inl (by simp [h])
  ·exact Or.inr h
theorem Jt.aa4 {f:Int->Int} {NP NQ rp rq:List Int} {m m':MM} (h:Jt f NP NQ rp rq m m') {k:Int} (hk:k ∉ rq) (hn:k ∉ NQ):Jt f NP NQ rp (rq++[k]) m (m'.opn k):=by
 obtain ⟨L,L',g1,g2,g3,g4,g5⟩:=h.ex
 refine ⟨⟨L,L',g1,g2,g3.opn hk (fun hx=>?_),g4,fun x hx=>?_⟩,h.most⟩
 ·obtain ⟨y,hy,e⟩:=List.mem_map.1 hx
  rcases g5 y hy with h | h
  ·exact hk (e ▸ h)
  ·exact hn (e ▸ h)
 ·rcases g5 x hx with h | h
  ·exact Or.inl (by simp [h])
  ·exact Or.inr h
theorem Eg (m:MM):m.fin.most=m.most:=by unfold MM.fin;split <;> rfl
theorem Jt.aa5 {f:Int->Int} {NP NQ rp rq:List Int} {m m':MM} {k:Int} (h:Jt f NP NQ (rp++[k]) rq m m'):Jt f NP NQ rp rq m.fin m':=by
 obtain ⟨L,L',g1,g2,g3,g4,g5⟩:=h.ex
 refine ⟨⟨L.filter (fun x=>decide (x≠k)),L',List.filter_sublist.trans g1,g2.fin,g3,fun x hx=>?_,g5⟩,by rw [Eg];exact h.most⟩
 obtain ⟨h1,h2⟩:=List.mem_filter.1 hx
 rcases g4 x h1 with h | h
 ·rcases List.mem_append.1 h with h | h
  ·exact Or.inl h
  ·simp only [List.mem_singleton] at h
   subst h;simp at h2
 ·exact Or.inr h
theorem Jt.aa6 {f:Int->Int} {NP NQ rp rq:List Int} {m m':MM} {k:Int} (h:Jt f NP NQ rp (rq++[k]) m m') (hx:∀ x,x∈rp\/x∈NP->f x≠k):Jt f NP NQ rp rq m m'.fin:=by
 obtain ⟨L,L',g1,g2,g3,g4,g5⟩:=h.ex
 have g6:=g3.fin
 rw [List.filter_map] at g6
 refine ⟨⟨L,L'.filter ((fun x=>decide (x≠k)) ∘ f),?_,g2,g6,g4,fun x hx=>?_⟩,by rw [Eg];exact h.most⟩
 ·have e:L.filter ((fun x=>decide (x≠k)) ∘ f)=L:=List.filter_eq_self.2 (fun x hL=>by simpa using hx x (g4 x hL))
  rw [<- e]
  exact g1.filter _
 ·obtain ⟨h1,h2⟩:=List.mem_filter.1 hx
  rcases g5 x h1 with h | h
  ·rcases List.mem_append.1 h with h | h
   ·exact Or.inl h
   ·simp only [List.mem_singleton] at h
    simp [h] at h2
  ·exact Or.inr h
structure Side (fuel:Nat) (t:PT) (sc:Sc) (base:Nat) (m:MM) (env:dL) (st:bY) (G:aQ):Prop where
 r:t.jr
 e:ER m.named m.cells sc env G base
 l:base+t.cnt<=m.named.length
 s:Sw fuel st m
theorem Side.out {fuel:Nat} {t:PT} {sc:Sc} {base:Nat} {m:MM} {env:dL} {st:bY} {G:aQ} {T:Ty} (h:Side fuel t sc base m env st G) (hw:WT G t T) (h0:(mW fuel t sc base m).2.fault=0) :
  Sw fuel (ev fuel t.era env st).2 (mW fuel t sc base m).2/\gu (mW fuel t sc base m).2.cells (ev fuel t.era env st).1 (mW fuel t sc base m).1/\(ev fuel t.era env st).1.has T/\Ext m (mW fuel t sc base m).2 base t.cnt:=by
 have hx:=(jC fuel hw sc base m h.r h.e.ef h.l).1
 rcases Gp fuel hw sc base m env st h.r h.e h.l h.s with ⟨h1,h2,h3⟩ | hB | hD
 ·exact ⟨h1,h2,h3,hx⟩
 ·rw [hB.2] at h0;cases h0
 ·rw [hD] at h0;cases h0
theorem nI {fuel:Nat} {t:PT} {sc:Sc} {base:Nat} {m:MM} (h:(mW fuel t sc base m).2.fault=0):m.fault=0:=by
 apply Classical.byContradiction
 intro hn
 rw [AB fuel t sc base m hn] at h
 exact hn h
theorem IM {m:MM} {i:Int} {v:MV} (h:(m.name i v).fault=0):m.fault=0:=by rw [(gR m i v).1] at h;exact h
theorem pL {i:Int} {g:MM->MV × MM} {k:Nat} {v:MV} {m:MM} (h:(cD i g k v m).2.fault=0):m.fault=0:=by
 apply Classical.byContradiction
 intro hn
 rw [fO i g k v m hn] at h
 exact hn h
theorem BV {m:MM} {v:MV} (h:(m.use v).2.fault=0):m.fault=0:=by
 apply Classical.byContradiction
 intro hn
 rw [rL m v hn] at h
 exact hn h
theorem Eh {fuel:Nat} {m:MM} {g:MM->MV × MM} (h:m.fault=0) (hf:(ba fuel m g).2.fault=0):m.steps < fuel/\ba fuel m g=g { m with steps:=m.steps+1 }:=by
 unfold ba at hf ⊢
 by_cases hq:fuel<=m.steps
 ·exfalso
  have e:m.stop 12={ m with fault:=12 }:=by unfold MM.stop;rw [if_pos h]
  simp only [if_pos hq,e] at hf
  rw [if_pos (by decide)] at hf
  cases hf
 ·simp only [if_neg hq]
  rw [if_neg (fun hn=>hn h)]
  exact ⟨by omega,rfl⟩
theorem Sw.step {fuel:Nat} {st:bY} {m:MM} (h:Sw fuel st m) (hl:m.steps < fuel):Sw fuel { st with steps:=st.steps+1 } { m with steps:=m.steps+1 } :=
 ⟨h.e,h.f,by simp only;rw [h.s],by have:=h.s;simp only;omega,h.c,h.r⟩
theorem iT {f:Int->Int} {NP NQ rp rq:List Int} {fuel:Nat} {st:bY} {m m':MM} {g g':MM->MV × MM} (hs:Sw fuel st m) (hs':Sw fuel st m') (hj:Jt f NP NQ rp rq m m') (h0:(ba fuel m g).2.fault=0) (h0':(ba fuel m' g').2.fault=0)
  (hk:Sw fuel { st with steps:=st.steps+1 } { m with steps:=m.steps+1 }->Sw fuel { st with steps:=st.steps+1 } { m' with steps:=m'.steps+1 }->Jt f NP NQ rp rq { m with steps:=m.steps+1 } { m' with steps:=m'.steps+1 }->(g { m with steps:=m.steps+1 }).2.fault=0->(g' { m' with steps:=m'.steps+1 }).2.fault=0->Jt f NP NQ rp rq (g { m with steps:=m.steps+1 }).2 (g' { m' with steps:=m'.steps+1 }).2) :
  Jt f NP NQ rp rq (ba fuel m g).2 (ba fuel m' g').2:=by
 obtain ⟨q,e⟩:=Eh hs.f h0
 obtain ⟨q',e'⟩:=Eh hs'.f h0'
 rw [e] at h0 ⊢
 rw [e'] at h0' ⊢
 exact hk (hs.step q) (hs'.step q') (hj.of rfl rfl rfl rfl rfl rfl) h0 h0'
theorem Ei {f:Int->Int} {NP NQ rp rq:List Int} {fuel:Nat} {T:Ty} {j j':Int} {g g':MM->MV × MM} {Pm Pm':MM->Prop}
  (ou:∀ st m m' X v v',Pm m->Pm' m'->Sw fuel st m->Sw fuel st m'->gu m.cells X v->gu m'.cells X v'->X.has T->Jt f NP NQ rp rq m m'->(g (m.name j v)).2.fault=0->(g' (m'.name j' v')).2.fault=0 ->
   ∃ SS X1,Sw fuel SS (g (m.name j v)).2/\Sw fuel SS (g' (m'.name j' v')).2/\gu (g (m.name j v)).2.cells X1 (g (m.name j v)).1/\gu (g' (m'.name j' v')).2.cells X1 (g' (m'.name j' v')).1/\X1.has T/\Jt f NP NQ rp rq (g (m.name j v)).2 (g' (m'.name j' v')).2/\Pm (g (m.name j v)).2/\Pm' (g' (m'.name j' v')).2) :
  ∀ (k:Nat) (st:bY) (m m':MM) (X:Vl) (v v':MV),Pm m->Pm' m'->Sw fuel st m->Sw fuel st m'->gu m.cells X v->gu m'.cells X v'->X.has T->Jt f NP NQ rp rq m m'->(cD j g k v m).2.fault=0->(cD j' g' k v' m').2.fault=0->Jt f NP NQ rp rq (cD j g k v m).2 (cD j' g' k v' m').2
 | 0,_,_,_,_,_,_,_,_,_,_,_,_,_,hj,_,_=>hj
 | k+1,st,m,m',X,v,v',hP,Y1,hs,hs',hr,hr',ht,hj,h0,h0'=>by
  simp only [cD] at h0 h0' ⊢
  rw [if_neg (fun hn=>hn hs.f)] at h0 ⊢
  rw [if_neg (fun hn=>hn hs'.f)] at h0' ⊢
  obtain ⟨SS,X1,a1,a2,a3,a4,a5,a6,a7,a8⟩:=ou st m m' X v v' hP Y1 hs hs' hr hr' ht hj (pL h0) (pL h0')
  exact Ei ou k SS _ _ X1 _ _ a7 a8 a1 a2 a3 a4 a5 a6 h0 h0'
theorem Cm.run {f:Int->Int} {NP NQ rp rq:List Int} {t t':PT} (fuel:Nat) (h:Cm f NP NQ rp rq t t'):∀ {G:aQ} {T:Ty},WT G t T->∀ (sc qB:Sc) (base base':Nat) (m m':MM) (env:dL) (st:bY),Side fuel t sc base m env st G->Side fuel t' qB base' m' env st G->Jt f NP NQ rp rq m m'->(mW fuel t sc base m).2.fault=0->(mW fuel t' qB base' m').2.fault=0->Jt f NP NQ rp rq (mW fuel t sc base m).2 (mW fuel t' qB base' m').2:=by
 induction h with
 | num h =>
  intro G T hw sc qB base base' m m' env st hd hd' hj h0 h0'
  simp only [mW] at h0 h0' ⊢
  exact iT hd.s hd'.s hj h0 h0' (fun _ _ hj _ _=>hj)
 | name =>
  intro G T hw sc qB base base' m m' env st hd hd' hj h0 h0'
  simp only [mW] at h0 h0' ⊢
  exact iT hd.s hd'.s hj h0 h0' (fun _ _ hj _ _=>hj)
 | @aT rp rq p q nm rg sQ a b a' b' ha hb aM bH =>
  intro G T hw sc qB base base' m m' env st hd hd' hj h0 h0'
  obtain ⟨hr,he,hl,hs⟩:=hd
  obtain ⟨hr',he',hl',hs'⟩:=hd'
  obtain ⟨A,wa,wb⟩:∃ A,WT G a A/\WT (G++[(nm,A)]) b T:=by
   cases hw with
   | aT wa wb=>exact ⟨_,wa,wb⟩
   | two hk=>simp at hk
  simp only [PT.jr,cL] at hr hr'
  simp only [PT.cnt,az,Nat.add_zero] at hl hl'
  simp only [mW,sD,if_true,reduceCtorEq,if_false] at h0 h0' ⊢
  refine iT hs hs' hj h0 h0' (fun hs hs' hj h0 h0'=>?_)
  have d1:Side fuel a sc base { m with steps:=m.steps+1 } env { st with steps:=st.steps+1 } G:=⟨hr.2.1,he,by simp only;omega,hs⟩
  have Co:Side fuel a' qB base' { m' with steps:=m'.steps+1 } env { st with steps:=st.steps+1 } G:=⟨hr'.2.1,he',by simp only;omega,hs'⟩
  have f1:=IM (nI h0)
  have IP:=IM (nI h0')
  obtain ⟨s1,r1,t1,x1⟩:=d1.out wa f1
  obtain ⟨vw,yV,_,BW⟩:=Co.out (ha.wt wa) IP
  rw [ha.SR fuel] at vw yV
  have j1:=aM wa _ _ _ _ _ _ _ _ d1 Co hj f1 IP
  generalize mW fuel a sc base { m with steps:=m.steps+1 }=x at h0 s1 r1 x1 j1 ⊢
  generalize mW fuel a' qB base' { m' with steps:=m'.steps+1 }=x' at h0' vw yV BW j1 ⊢
  generalize ev fuel a.era env { st with steps:=st.steps+1 }=y at s1 r1 t1 vw yV
  have Wj:=cH a
  have abU:=cH a'
  have hxl:x.2.named.length=m.named.length:=x1.len
  have D9:x'.2.named.length=m'.named.length:=BW.len
  rw [show (((base+a.cnt:Nat):Int) - 1)=((base+a.cnt - 1:Nat):Int) from by omega] at h0 ⊢
  rw [show (((base'+a'.cnt:Nat):Int) - 1)=((base'+a'.cnt - 1:Nat):Int) from by omega] at h0' ⊢
  have gY:=(ER.on (m:={ m with steps:=m.steps+1 }) he x1 (Nat.le_refl _)).snoc (nm:=nm) (j:=base+a.cnt - 1) (by omega) (by omega) r1 t1
  have Ot:=(ER.on (m:={ m' with steps:=m'.steps+1 }) he' BW (Nat.le_refl _)).snoc (nm:=nm) (j:=base'+a'.cnt - 1) (by omega) (by omega) yV t1
  rw [show base+a.cnt - 1+1=base+a.cnt from by omega] at gY
  rw [show base'+a'.cnt - 1+1=base'+a'.cnt from by omega] at Ot
  have hne:=dw x.2 (base+a.cnt - 1) x.1 base a.cnt (by omega)
  have GA:=dw x'.2 (base'+a'.cnt - 1) x'.1 base' a'.cnt (by omega)
  exact bH wb _ _ _ _ _ _ _ _ ⟨hr.2.2.1,gY,by rw [hne.len,hxl];omega,s1.name _ _⟩ ⟨hr'.2.2.1,Ot,by rw [GA.len,D9];omega,vw.name _ _⟩ (j1.name _ _ _ _) h0 h0'
 | @pair rp rq p q nm Ak rg sQ a b a' b' Pf hrq hee ha hb aM bH =>
  intro G T hw sc qB base base' m m' env st hd hd' hj h0 h0'
  obtain ⟨hr,he,hl,hs⟩:=hd
  obtain ⟨hr',he',hl',hs'⟩:=hd'
  obtain ⟨A,B,wa,wb⟩:∃ A B,WT G a A/\WT G b B:=by
   cases hw with
   | pair wa wb hsz=>exact ⟨_,_,wa,wb⟩
   | two hk=>simp at hk
  simp only [PT.jr,cL] at hr hr'
  simp only [PT.cnt,az,Nat.add_zero] at hl hl'
  simp only [mW,fN,if_true,reduceCtorEq,if_false] at h0 h0' ⊢
  refine iT hs hs' hj h0 h0' (fun hs hs' hj h0 h0'=>?_)
  rw [fB] at h0 h0'
  have d1:Side fuel a sc base { m with steps:=m.steps+1 } env { st with steps:=st.steps+1 } G:=⟨hr.2.1,he,by simp only;omega,hs⟩
  have Co:Side fuel a' qB base' { m' with steps:=m'.steps+1 } env { st with steps:=st.steps+1 } G:=⟨hr'.2.1,he',by simp only;omega,hs'⟩
  have f1:=nI h0
  have IP:=nI h0'
  obtain ⟨s1,r1,t1,x1⟩:=d1.out wa f1
  obtain ⟨vw,yV,_,BW⟩:=Co.out (ha.wt wa) IP
  rw [ha.SR fuel] at vw yV
  have j1:=aM wa _ _ _ _ _ _ _ _ d1 Co hj f1 IP
  generalize mW fuel a sc base { m with steps:=m.steps+1 }=x at h0 s1 r1 x1 j1 ⊢
  generalize mW fuel a' qB base' { m' with steps:=m'.steps+1 }=x' at h0' vw yV BW j1 ⊢
  generalize ev fuel a.era env { st with steps:=st.steps+1 }=y at s1 r1 t1 vw yV
  have hxl:x.2.named.length=m.named.length:=x1.len
  have D9:x'.2.named.length=m'.named.length:=BW.len
  have hx:=(ER.on (m:={ m with steps:=m.steps+1 }) he x1 (Nat.le_refl _)).up (show base<=base+a.cnt by omega)
  have hx':=(ER.on (m:={ m' with steps:=m'.steps+1 }) he' BW (Nat.le_refl _)).up (show base'<=base'+a'.cnt by omega)
  exact (bH wb _ _ _ _ _ _ _ _ ⟨hr.2.2.1,hx,by omega,s1⟩ ⟨hr'.2.2.1,hx',by omega,vw⟩ j1 h0 h0').cell Pf hrq hee _ _ _ _
 | @fst rp rq p q nm Ak rg sQ a a' ha aM =>
  intro G T hw sc qB base base' m m' env st hd hd' hj h0 h0'
  obtain ⟨hr,he,hl,hs⟩:=hd
  obtain ⟨hr',he',hl',hs'⟩:=hd'
  obtain ⟨A,wa⟩:∃ A,WT G a A:=by cases hw with | fst wa=>exact ⟨_,wa⟩
  simp only [PT.jr,cL] at hr hr'
  simp only [PT.cnt,az,Nat.add_zero] at hl hl'
  simp only [mW,fN,if_true,reduceCtorEq,if_false] at h0 h0' ⊢
  refine iT hs hs' hj h0 h0' (fun hs hs' hj h0 h0'=>?_)
  have d1:Side fuel a sc base { m with steps:=m.steps+1 } env { st with steps:=st.steps+1 } G:=⟨hr.2.1,he,by simp only;omega,hs⟩
  have Co:Side fuel a' qB base' { m' with steps:=m'.steps+1 } env { st with steps:=st.steps+1 } G:=⟨hr'.2.1,he',by simp only;omega,hs'⟩
  exact (aM wa _ _ _ _ _ _ _ _ d1 Co hj (BV h0) (BV h0')).use _ _
 | @snd rp rq p q nm Ak rg sQ a a' ha aM =>
  intro G T hw sc qB base base' m m' env st hd hd' hj h0 h0'
  obtain ⟨hr,he,hl,hs⟩:=hd
  obtain ⟨hr',he',hl',hs'⟩:=hd'
  obtain ⟨A,wa⟩:∃ A,WT G a A:=by cases hw with | snd wa=>exact ⟨_,wa⟩
  simp only [PT.jr,cL] at hr hr'
  simp only [PT.cnt,az,Nat.add_zero] at hl hl'
  simp only [mW,fN,reduceCtorEq,if_false] at h0 h0' ⊢
  refine iT hs hs' hj h0 h0' (fun hs hs' hj h0 h0'=>?_)
  have d1:Side fuel a sc base { m with steps:=m.steps+1 } env { st with steps:=st.steps+1 } G:=⟨hr.2.1,he,by simp only;omega,hs⟩
  have Co:Side fuel a' qB base' { m' with steps:=m'.steps+1 } env { st with steps:=st.steps+1 } G:=⟨hr'.2.1,he',by simp only;omega,hs'⟩
  exact (aM wa _ _ _ _ _ _ _ _ d1 Co hj (BV h0) (BV h0')).use _ _
 | @dQ rp rq p q nm Ak rg sQ a b c a' b' c' ha hb hc aM bH gL =>
  intro G T hw sc qB base base' m m' env st hd hd' hj h0 h0'
  obtain ⟨hr,he,hl,hs⟩:=hd
  obtain ⟨hr',he',hl',hs'⟩:=hd'
  obtain ⟨wa,wb,wc⟩:WT G a .n/\WT G b T/\WT G c T:=by cases hw with | dQ wa wb wc=>exact ⟨wa,wb,wc⟩
  simp only [PT.jr,cL] at hr hr'
  simp only [PT.cnt,az,Nat.add_zero] at hl hl'
  simp only [mW,Fz,if_true,reduceCtorEq,if_false] at h0 h0' ⊢
  refine iT hs hs' hj h0 h0' (fun hs hs' hj h0 h0'=>?_)
  have d1:Side fuel a sc base { m with steps:=m.steps+1 } env { st with steps:=st.steps+1 } G:=⟨hr.2.1,he,by simp only;omega,hs⟩
  have Co:Side fuel a' qB base' { m' with steps:=m'.steps+1 } env { st with steps:=st.steps+1 } G:=⟨hr'.2.1,he',by simp only;omega,hs'⟩
  have f1:(mW fuel a sc base { m with steps:=m.steps+1 }).2.fault=0:=by
   split at h0
   ·exact nI h0
   ·exact nI h0
  have IP:(mW fuel a' qB base' { m' with steps:=m'.steps+1 }).2.fault=0:=by
   split at h0'
   ·exact nI h0'
   ·exact nI h0'
  obtain ⟨s1,r1,t1,x1⟩:=d1.out wa f1
  obtain ⟨vw,yV,_,BW⟩:=Co.out (ha.wt wa) IP
  rw [ha.SR fuel] at vw yV
  have j1:=aM wa _ _ _ _ _ _ _ _ d1 Co hj f1 IP
  generalize mW fuel a sc base { m with steps:=m.steps+1 }=x at h0 s1 r1 x1 j1 ⊢
  generalize mW fuel a' qB base' { m' with steps:=m'.steps+1 }=x' at h0' vw yV BW j1 ⊢
  generalize ev fuel a.era env { st with steps:=st.steps+1 }=y at s1 r1 t1 vw yV
  have hxl:x.2.named.length=m.named.length:=x1.len
  have D9:x'.2.named.length=m'.named.length:=BW.len
  have hx:=ER.on (m:={ m with steps:=m.steps+1 }) he x1 (Nat.le_refl _)
  have hx':=ER.on (m:={ m' with steps:=m'.steps+1 }) he' BW (Nat.le_refl _)
  have hnn:x.1.n=x'.1.n:=by
   obtain ⟨y1,y2⟩:=y
   cases y1 with
   | p u v=>simp [Vl.has] at t1
   | n k=>simp only [gu] at r1 yV;omega
  by_cases hz:x.1.n≠0
  ·rw [if_pos hz] at h0 ⊢
   rw [if_pos (by rw [<- hnn];exact hz)] at h0' ⊢
   exact bH wb _ _ _ _ _ _ _ _ ⟨hr.2.2.1,hx.up (by omega),by omega,s1⟩ ⟨hr'.2.2.1,hx'.up (by omega),by omega,vw⟩ j1 h0 h0'
  ·rw [if_neg hz] at h0 ⊢
   rw [if_neg (by rw [<- hnn];exact hz)] at h0' ⊢
   exact gL wc _ _ _ _ _ _ _ _ ⟨hr.2.2.2.1,hx.up (by omega),by omega,s1⟩ ⟨hr'.2.2.2.1,hx'.up (by omega),by omega,vw⟩ j1 h0 h0'
 | @two rp rq p q k nm Ak rg sQ a b a' b' hk ha hb aM bH =>
  intro G T hw sc qB base base' m m' env st hd hd' hj h0 h0'
  obtain ⟨hr,he,hl,hs⟩:=hd
  obtain ⟨hr',he',hl',hs'⟩:=hd'
  obtain ⟨wa,wb⟩:WT G a .n/\WT G b .n:=by
   cases hw with
   | two _ wa wb=>exact ⟨wa,wb⟩
   | aT _ _=>simp at hk
   | pair _ _ _=>simp at hk
  simp only [PT.jr,cL] at hr hr'
  simp only [PT.cnt,az,Nat.add_zero] at hl hl'
  have e:∀ (p:Nat) (nm rg:List UInt8) (a b:PT) (sc:Sc) (base:Nat) (m:MM),mW fuel (.node p k nm rg [a,b]) sc base m=ba fuel m (fun m=>(⟨false,gQ k (mW fuel a sc base m).1.n (mW fuel b sc (base+a.cnt) (mW fuel a sc base m).2).1.n⟩,(mW fuel b sc (base+a.cnt) (mW fuel a sc base m).2).2)):=by
   intro p nm rg a b sc base m
   rcases hk with rfl | rfl | rfl <;> simp only [mW,fN,reduceCtorEq,if_false]
  rw [e] at h0 ⊢
  rw [e] at h0' ⊢
  refine iT hs hs' hj h0 h0' (fun hs hs' hj h0 h0'=>?_)
  simp only at h0 h0' ⊢
  have d1:Side fuel a sc base { m with steps:=m.steps+1 } env { st with steps:=st.steps+1 } G:=⟨hr.2.1,he,by simp only;omega,hs⟩
  have Co:Side fuel a' qB base' { m' with steps:=m'.steps+1 } env { st with steps:=st.steps+1 } G:=⟨hr'.2.1,he',by simp only;omega,hs'⟩
  have f1:=nI h0
  have IP:=nI h0'
  obtain ⟨s1,r1,t1,x1⟩:=d1.out wa f1
  obtain ⟨vw,yV,_,BW⟩:=Co.out (ha.wt wa) IP
  rw [ha.SR fuel] at vw yV
  have j1:=aM wa _ _ _ _ _ _ _ _ d1 Co hj f1 IP
  generalize mW fuel a sc base { m with steps:=m.steps+1 }=x at h0 s1 r1 x1 j1 ⊢
  generalize mW fuel a' qB base' { m' with steps:=m'.steps+1 }=x' at h0' vw yV BW j1 ⊢
  generalize ev fuel a.era env { st with steps:=st.steps+1 }=y at s1 r1 t1 vw yV
  have hxl:x.2.named.length=m.named.length:=x1.len
  have D9:x'.2.named.length=m'.named.length:=BW.len
  have hx:=(ER.on (m:={ m with steps:=m.steps+1 }) he x1 (Nat.le_refl _)).up (show base<=base+a.cnt by omega)
  have hx':=(ER.on (m:={ m' with steps:=m'.steps+1 }) he' BW (Nat.le_refl _)).up (show base'<=base'+a'.cnt by omega)
  exact bH wb _ _ _ _ _ _ _ _ ⟨hr.2.2.1,hx,by omega,s1⟩ ⟨hr'.2.2.1,hx',by omega,vw⟩ j1 h0 h0'
 | @loop rp rq p q nm rg sQ a b c a' b' c' ha hb hc aM bH gL =>
  intro G T hw sc qB base base' m m' env st hd hd' hj h0 h0'
  obtain ⟨hr,he,hl,hs⟩:=hd
  obtain ⟨hr',he',hl',hs'⟩:=hd'
  obtain ⟨wa,wb,wc⟩:WT G a .n/\WT G b T/\WT (G++[(nm,T)]) c T:=by cases hw with | loop wa wb wc=>exact ⟨wa,wb,wc⟩
  simp only [PT.jr,cL] at hr hr'
  simp only [PT.cnt,az,Nat.add_zero] at hl hl'
  simp only [mW,kU,if_true,reduceCtorEq,if_false] at h0 h0' ⊢
  refine iT hs hs' hj h0 h0' (fun hs hs' hj h0 h0'=>?_)
  have d1:Side fuel a sc base { m with steps:=m.steps+1 } env { st with steps:=st.steps+1 } G:=⟨hr.2.1,he,by simp only;omega,hs⟩
  have Co:Side fuel a' qB base' { m' with steps:=m'.steps+1 } env { st with steps:=st.steps+1 } G:=⟨hr'.2.1,he',by simp only;omega,hs'⟩
  have f2:=pL h0
  have f2':=pL h0'
  have f1:=nI f2
  have IP:=nI f2'
  obtain ⟨s1,r1,t1,x1⟩:=d1.out wa f1
  obtain ⟨vw,yV,_,BW⟩:=Co.out (ha.wt wa) IP
  rw [ha.SR fuel] at vw yV
  have j1:=aM wa _ _ _ _ _ _ _ _ d1 Co hj f1 IP
  generalize mW fuel a sc base { m with steps:=m.steps+1 }=x at h0 s1 r1 x1 j1 f2 ⊢
  generalize mW fuel a' qB base' { m' with steps:=m'.steps+1 }=x' at h0' vw yV BW j1 f2' ⊢
  generalize ev fuel a.era env { st with steps:=st.steps+1 }=y at s1 r1 t1 vw yV
  have hxl:x.2.named.length=m.named.length:=x1.len
  have D9:x'.2.named.length=m'.named.length:=BW.len
  have hx:=ER.on (m:={ m with steps:=m.steps+1 }) he x1 (Nat.le_refl _)
  have hx':=ER.on (m:={ m' with steps:=m'.steps+1 }) he' BW (Nat.le_refl _)
  have hnn:x'.1.n=x.1.n:=by
   obtain ⟨y1,y2⟩:=y
   cases y1 with
   | p u v=>simp [Vl.has] at t1
   | n k=>simp only [gu] at r1 yV;omega
  rw [hnn] at h0' ⊢
  have d2:Side fuel b sc (base+a.cnt) x.2 env y.2 G:=⟨hr.2.2.1,hx.up (by omega),by omega,s1⟩
  have d2':Side fuel b' qB (base'+a'.cnt) x'.2 env y.2 G:=⟨hr'.2.2.1,hx'.up (by omega),by omega,vw⟩
  obtain ⟨s2,r2,t2,x2⟩:=d2.out wb f2
  obtain ⟨s2',r2',_,ZM⟩:=d2'.out (hb.wt wb) f2'
  rw [hb.SR fuel] at s2' r2'
  have j2:=bH wb _ _ _ _ _ _ _ _ d2 d2' j1 f2 f2'
  generalize mW fuel b sc (base+a.cnt) x.2=z at h0 s2 r2 x2 j2 ⊢
  generalize mW fuel b' qB (base'+a'.cnt) x'.2=z' at h0' s2' r2' ZM j2 ⊢
  generalize ev fuel b.era env y.2=u at s2 r2 t2 s2' r2'
  have hzl:z.2.named.length=m.named.length:=x2.len.trans hxl
  have aa7:z'.2.named.length=m'.named.length:=ZM.len.trans D9
  have yQ:=cH b
  have uX:=cH b'
  rw [show (((base+a.cnt+b.cnt:Nat):Int) - 1)=((base+a.cnt+b.cnt - 1:Nat):Int) from by omega] at h0 ⊢
  rw [show (((base'+a'.cnt+b'.cnt:Nat):Int) - 1)=((base'+a'.cnt+b'.cnt - 1:Nat):Int) from by omega] at h0' ⊢
  refine Ei (Pm:=fun n=>ER n.named n.cells sc env G base/\n.named.length=m.named.length) (Pm':=fun n=>ER n.named n.cells qB env G base'/\n.named.length=m'.named.length) (fun st n n' X v v' hP Y1 hs hs' hr1 MZ ht hj g0 g0'=>?_) _ u.2 z.2 z'.2 u.1 z.1 z'.1 ⟨hx.on x2 (by omega),hzl⟩ ⟨hx'.on ZM (by omega),aa7⟩ s2 s2' r2 r2' t2 j2 h0 h0'
  have gY:=ER.snoc (nm:=nm) (j:=base+a.cnt+b.cnt - 1) (ER.up hP.1 (show base<=base+a.cnt+b.cnt - 1 by omega)) (Nat.le_refl _) (by omega) hr1 ht
  have Ot:=ER.snoc (nm:=nm) (j:=base'+a'.cnt+b'.cnt - 1) (ER.up Y1.1 (show base'<=base'+a'.cnt+b'.cnt - 1 by omega)) (Nat.le_refl _) (by omega) MZ ht
  rw [show base+a.cnt+b.cnt - 1+1=base+a.cnt+b.cnt from by omega] at gY
  rw [show base'+a'.cnt+b'.cnt - 1+1=base'+a'.cnt+b'.cnt from by omega] at Ot
  have hne:=dw n (base+a.cnt+b.cnt - 1) v (base+a.cnt+b.cnt - 1) 1 (by omega)
  have GA:=dw n' (base'+a'.cnt+b'.cnt - 1) v' (base'+a'.cnt+b'.cnt - 1) 1 (by omega)
  have d3:Side fuel c (sc++[(nm,((base+a.cnt+b.cnt - 1:Nat):Int))]) (base+a.cnt+b.cnt) (n.name ((base+a.cnt+b.cnt - 1:Nat):Int) v) (env++[(nm,X)]) st (G++[(nm,T)]):=⟨hr.2.2.2.1,gY,by rw [hne.len];omega,hs.name _ _⟩
  have d3':Side fuel c' (qB++[(nm,((base'+a'.cnt+b'.cnt - 1:Nat):Int))]) (base'+a'.cnt+b'.cnt) (n'.name ((base'+a'.cnt+b'.cnt - 1:Nat):Int) v') (env++[(nm,X)]) st (G++[(nm,T)]):=⟨hr'.2.2.2.1,Ot,by rw [GA.len];omega,hs'.name _ _⟩
  obtain ⟨s3,r3,t3,x3⟩:=d3.out wc g0
  obtain ⟨s3',r3',_,x3'⟩:=d3'.out (hc.wt wc) g0'
  rw [hc.SR fuel] at s3' r3'
  exact ⟨_,_,s3,s3',r3,r3',t3,gL wc _ _ _ _ _ _ _ _ d3 d3' (hj.name _ _ _ _) g0 g0',⟨ER.on (hP.1.on hne (by omega)) x3 (by omega),x3.len.trans (hne.len.trans hP.2)⟩,⟨ER.on (Y1.1.on GA (by omega)) x3' (by omega),x3'.len.trans (GA.len.trans Y1.2)⟩⟩
 | @Oo rp rq p nm rg a t' hk hn ha aM =>
  intro G T hw sc qB base base' m m' env st hd hd' hj h0 h0'
  obtain ⟨hr,he,hl,hs⟩:=hd
  have wa:WT G a T:=by cases hw with | new wa=>exact wa
  simp only [PT.jr,cL] at hr
  simp only [PT.cnt,az,Nat.add_zero] at hl
  simp only [mW,pV,if_true] at h0 ⊢
  rw [(kF _).1] at h0
  have d1:Side fuel a sc base (m.opn (aq rg)) env st G:=⟨hr.2.1,he,by simp only [MM.opn];omega,⟨hs.e,hs.f,hs.s,hs.le,hs.c,by simp [MM.opn]⟩⟩
  exact (aM wa _ _ _ _ _ _ _ _ d1 hd' (hj.aa3 hk hn) h0 h0').aa5
 | @Rv rp rq q nm rg t a' hk hn hx ha aM =>
  intro G T hw sc qB base base' m m' env st hd hd' hj h0 h0'
  obtain ⟨hr,he,hl,hs⟩:=hd'
  simp only [PT.jr,cL] at hr
  simp only [PT.cnt,az,Nat.add_zero] at hl
  simp only [mW,pV,if_true] at h0' ⊢
  rw [(kF _).1] at h0'
  have d1:Side fuel a' qB base' (m'.opn (aq rg)) env st G:=⟨hr.2.1,he,by simp only [MM.opn];omega,⟨hs.e,hs.f,hs.s,hs.le,hs.c,by simp [MM.opn]⟩⟩
  exact (aM hw _ _ _ _ _ _ _ _ hd d1 (hj.aa4 hk hn) h0 h0').aa6 hx
theorem Cm.counts {f:Int->Int} {NP NQ:List Int} {t t':PT} {T:Ty} (fuel:Nat) (h:Cm f NP NQ [] [] t t') (hw:WT [] t T) (hr:t.jr) (hr':t'.jr) (h0:(mW fuel t [] 0 ((m0 t.cnt).opn (-1))).2.fault=0) (h0':(mW fuel t' [] 0 ((m0 t'.cnt).opn (-1))).2.fault=0) :
  (mW fuel t [] 0 ((m0 t.cnt).opn (-1))).2.most<=(mW fuel t' [] 0 ((m0 t'.cnt).opn (-1))).2.most/\(mW fuel t [] 0 ((m0 t.cnt).opn (-1))).2.live<=(mW fuel t' [] 0 ((m0 t'.cnt).opn (-1))).2.live:=by
 have hd:∀ (t:PT),t.jr->Side fuel t [] 0 ((m0 t.cnt).opn (-1)) [] ⟨0,0,0⟩ []:=fun t hr=>⟨hr,fun s T h=>by simp [look] at h,by simp [m0,MM.opn],⟨rfl,rfl,rfl,Nat.zero_le _,rfl,by simp [m0,MM.opn]⟩⟩
 have hj:∀ k,Jm ((m0 k).opn (-1)) [] []:=fun k=>⟨rfl,rfl,List.nodup_nil,rfl,fun i g hi hg=>by
  simp only [m0,MM.opn,List.nil_append] at hg
  have:=(List.getElem?_eq_some_iff.1 hg).1
  simp only [List.length_singleton] at this
  omega⟩
 have:=h.run fuel hw [] [] 0 0 _ _ [] ⟨0,0,0⟩ (hd t hr) (hd t' hr') ⟨⟨[],[],List.Sublist.refl _,hj _,hj _,by simp,by simp⟩,Int.le_refl _⟩ h0 h0'
 exact ⟨this.most,this.le⟩
end Go.Proofs.YtpicaknklgccoabGreatDoor
