import Derived.Lib.ItoaNum
namespace Go.Proofs.YtpicaknklgccoaaGreatDoor
variable {w:Bool}{c P:List UInt8}{v:Nat}
abbrev aa:=@List.getElem?_eq_getElem
abbrev ae:=@List.getElem?_eq_some_iff
abbrev ag:=@if_neg
abbrev ah:=@if_pos
abbrev ak:=@List.getElem?_append_left
abbrev aq:=@List.mem_of_getElem?
abbrev aw:=@List.getElem?_append_right
abbrev aj:=@List.length_append
abbrev ax:=@List.mem_singleton
abbrev ai:=@Option.some.injEq
abbrev aA:=@List.mem_append
abbrev aC:=@List.getElem?_map
abbrev aH:=@beq_eq_false_iff_ne
abbrev aL:=@List.getElem?_cons_zero
abbrev aD:=@Or.inl
abbrev az:=@Nat.add_zero
abbrev aE:=@Or.inr
abbrev aO:=@List.length_map
abbrev aW:=@List.drop_eq_getElem_cons
abbrev aX:=@ByteArray.size_append
abbrev aN:=@List.append_nil
abbrev aT:=@if_false
abbrev aB:=@List.append_assoc
abbrev aZ:=@List.getD_eq_getElem?_getD
abbrev aY:=@Nat.add_assoc
abbrev bh:=@List.getElem?_set_self
abbrev bB:=@List.getD_cons_zero
abbrev bF:=@List.drop_eq_nil_of_le
abbrev bG:=@List.length_singleton
abbrev bz:=@List.map_append
abbrev bw:=@Nat.le_trans
abbrev bH:=@List.getElem?_eq_none
abbrev bI:=@List.getElem?_set_ne
abbrev bM:=@List.getD_cons_succ
abbrev bQ:=@List.take_succ_eq_append_getElem
abbrev aS:=@List.cons_append
abbrev bJ:=@Nat.zero_add
abbrev bL:=@Int.toNat_natCast
abbrev bU:=@Option.map_eq_some_iff
abbrev bC:=@List.nil_append
abbrev aF:=@List.length_cons
abbrev cd:=@decide_eq_false
abbrev bf:=@List.mem_cons
abbrev bZ:=@List.getElem_mem
abbrev cj:=@List.mem_cons_of_mem
abbrev cw:=@List.take_of_length_le
abbrev bT:=@if_true
abbrev bW:=@decide_eq_true_eq
abbrev cJ:=@Nat.add_sub_cancel_left
abbrev cH:=@Bool.false_eq_true
abbrev cx:=@Nat.sub_self
abbrev cB:=@List.getElem?_of_mem
abbrev cQ:=@List.singleton_append
abbrev cT:=@Nat.lt_of_lt_of_le
abbrev cM:=@List.mem_map
abbrev cW:=@List.take_add_one
abbrev bn:=@List.length_nil
abbrev bK:=@List.map_cons
abbrev cu:=@Bool.and_eq_true
abbrev di:=@List.length_range
abbrev dm:=@List.prefix_append
abbrev cS:=@List.length_take
abbrev dD:=@Int.tmod_eq_emod_of_nonneg
abbrev dE:=@List.length_eq_zero_iff
abbrev dC:=@List.findIdx?_eq_some_iff_getElem
abbrev dw:=@List.find?_cons
abbrev dx:=@Option.some.inj
abbrev dL:=@Nat.min_eq_left
abbrev dZ:=@decide_eq_true
abbrev cE:=@List.getElem?_cons_succ
abbrev dU:=@List.mem_of_find?_eq_some
abbrev dO:=@List.map_map
abbrev cO:=@List.length_set
abbrev dS:=@List.flatMap_cons
abbrev dB:=@Array.size_modify
abbrev eC:=@List.mem_cons_self
abbrev eF:=@List.filter_cons
abbrev dN:=@List.length_drop
abbrev eD:=@List.IsPrefix.trans
abbrev cf:=@Option.map_some
abbrev eI:=@Array.getElem?_setIfInBounds
abbrev eV:=@Nat.mul_le_mul_right
abbrev eU:=@Nat.le_add_right
abbrev eJ:=@List.getElem?_modify
abbrev eX:=@List.dropLast_concat
abbrev eQ:=@List.getElem?_replicate
abbrev eY:=@List.mem_iff_getElem
abbrev eH:=@List.map_nil
abbrev fq:=@List.reverse_append
abbrev cY:=@List.take_succ_cons
abbrev eT:=@Option.toList_some
abbrev fB:=@Nat.add_sub_cancel
abbrev fD:=@List.ext_getElem?
abbrev fR:=@List.take_length
abbrev dF:=@Option.getD_some
abbrev fU:=@Array.append_empty
abbrev fV:=@List.zip_cons_cons
abbrev fX:=@List.take_append_drop
abbrev fS:=@List.findIdx?_eq_none_iff
abbrev gh:=@List.pairwise_iff_getElem
abbrev fW:=@Bool.not_eq_true'
abbrev gi:=@Nat.le_of_lt
abbrev gz:=@List.zip_nil_left
abbrev gX:=@List.filter_append
abbrev gU:=@List.reverse_singleton
abbrev gZ:=@List.range_succ
abbrev ij:=@List.length_filter_le
abbrev ik:=@List.set_append_right
abbrev iq:=@Nat.le_succ_of_le
abbrev iv:=@List.reverse_cons
abbrev fA:=@List.not_mem_nil
abbrev jc:=@decide_false
abbrev iK:=@Nat.max_eq_right
abbrev iL:=@Nat.min_eq_right
abbrev iH:=@List.mem_or_eq_of_mem_set
abbrev iI:=@Classical.byContradiction
abbrev gK:=@List.drop_succ_cons
abbrev iR:=@Int.toNat_of_nonneg
abbrev iC:=@List.getElem?_range
abbrev iT:=@Nat.lt_succ_iff_lt_or_eq
abbrev jd:=@Bool.eq_iff_iff
abbrev je:=@Nat.max_eq_left
abbrev gT:=@decide_eq_false_iff_not
abbrev jv:=@Nat.lt_or_ge
abbrev iA:=@List.drop_zero
abbrev jx:=@Nat.ne_of_lt
abbrev jG:=@List.filterMap_append
abbrev jH:=@List.length_replicate
abbrev jI:=@Bool.and_eq_false_iff
abbrev jQ:=@Nat.le_of_not_lt
abbrev jB:=@List.take_append_of_le_length
abbrev jU:=@Nat.add_mul
abbrev jC:=@List.eq_nil_of_length_eq_zero
abbrev jW:=@List.pairwise_append
abbrev dP:=@List.cons.injEq
abbrev kD:=@List.zip_append
abbrev kE:=@List.of_mem_zip
abbrev kF:=@List.mem_filter
abbrev kG:=@List.length_pos_iff
abbrev kH:=@List.flatMap_append
abbrev jw:=@List.map_set
abbrev kO:=@Nat.sub_zero
abbrev lg:=@List.drop_drop
abbrev jX:=@Array.getElem?_eq_some_iff
abbrev kI:=@List.find?_eq_none
abbrev jq:=@List.pairwise_cons
abbrev kA:=@Array.toList_setIfInBounds
abbrev jY:=@List.getLast?_eq_getElem?
abbrev kB:=@List.getElem?_zip_eq_some
abbrev mG:=@decide_true
abbrev lD:=@Nat.lt_trichotomy
abbrev kZ:=@List.getElem?_set
abbrev fN:=@List.sum_cons
abbrev fE:=@Prod.mk.injEq
abbrev mq:=@List.prefix_refl
abbrev lh:=@List.getElem?_singleton
abbrev mr:=@List.drop_append
abbrev mw:=@List.drop_length
abbrev mA:=@List.ext_getElem
abbrev jR:=@Option.bind_some
abbrev jS:=@List.getElem_map
abbrev lE:=@Array.getElem?_eq_none
abbrev iQ:=@beq_iff_eq
abbrev lF:=@List.getElem?_dropLast
abbrev mU:=@Nat.succ_mul
abbrev mZ:=@List.headD_cons
abbrev ng:=@Int.natCast_add
abbrev nK:=@Nat.le_refl
abbrev nL:=@List.take_zero
abbrev nN:=@List.take_take
abbrev nO:=@List.mem_range
abbrev nP:=@Bool.false_and
abbrev oY:=@Nat.mod_lt
abbrev fC:=@true_and
abbrev lC:=@or_false
abbrev bS{n:Nat}:=nK n
abbrev ld{n:Nat}:=Nat.zero_le n
abbrev uf{a:Type}{l:List a}:=mq l
def ug(a b:Int)(c:UInt8):Bool:=decide (a<=(c.toNat:Int))&&decide ((c.toNat:Int)<=b)
def run(a b:Int):List UInt8->Nat
 |[]=>0
 |c::r=>if ug a b c then run a b r+1 else 0
theorem pQ(a b:Int)(l):run a b l<=l.length:=by
 induction l with
 |nil=>simp[run]
 |cons c r d=>simp[run];split<;>simp<;>omega
def fk(l:List UInt8)(a:Nat):Bool:=decide (0<l.length)&&decide (l.length<=a)&&(decide (l.length=1)||(l.head? !=some 48))
def aQ(l:List UInt8):Int:=l.foldl (λn c=>if c=35 then n else 10*n+(c.toNat:Int)-48) 0
theorem Ah(l)(c):aQ (l++[c])=if c=35 then aQ l else 10*aQ l+(c.toNat:Int)-48:=by
 unfold aQ;rw[List.foldl_append];rfl
theorem UH(l:List UInt8):∀(j:Nat)(a:Int),-(30*10 ^ j-30)<=a->a<=30*10 ^ j-30->-(30*10 ^ (j+l.length)-30)<=l.foldl (λn c=>if c=35 then n else 10*n+(c.toNat:Int)-48) a/\l.foldl (λn c=>if c=35 then n else 10*n+(c.toNat:Int)-48) a<=30*10 ^ (j+l.length)-30:=by
 induction l with
 |nil=>intro j a h1 h2;exact⟨h1,h2⟩
 |cons c r b=>
  intro j a h1 h2;have d:=c.toNat_lt;have e:(10:Int) ^ (j+1)=10*10 ^ j:=by rw[Int.pow_succ];omega
  have:=b (j+1) (if c=35 then a else 10*a+(c.toNat:Int)-48) (by rw[e];split<;>omega) (by rw[e];split<;>omega);rw[aF,show j+(r.length+1)=j+1+r.length from by omega];exact this
theorem Ec(l):-(30*10 ^ l.length-30)<=aQ l/\aQ l<=30*10 ^ l.length-30:=by
 have:=UH l 0 0 (by decide) (by decide);simpa [aQ] using this
def mB(s:List UInt8):List UInt8->List UInt8->Bool
 |a,[]=>a==s
 |a,c::r=>if c=32 then (a==s)||mB s [] r else mB s (a++[c]) r
def mH(l:List UInt8):Nat:=(l.filter λc=>c==60).length
theorem Kb(l)(c):mH (l++[c])=mH l+if c==60 then 1 else 0:=by
 unfold mH;rw[gX];cases h:c==60<;>simp[h]
theorem QO(l):mH l<=l.length:=by unfold mH;exact ij _ _
inductive Kw|dV|pair|fst|snd|lv|add|sub|less|loop|new
 deriving DecidableEq,Repr
variable {a:Kw}
def Kw.bytes:Kw->List UInt8
 |.dV=>[108,101,116]
 |.pair=>[112,97,105,114]
 |.fst=>[102,115,116]
 |.snd=>[115,110,100]
 |.lv=>[105,102]
 |.add=>[97,100,100]
 |.sub=>[115,117,98]
 |.less=>[108,101,115,115]
 |.loop=>[108,111,111,112]
 |.new=>[110,101,119]
def xS(l:List UInt8):Option Kw:=
 if l=Kw.dV.bytes then some .dV else if l=Kw.pair.bytes then some .pair else if l=Kw.fst.bytes then some .fst else
 if l=Kw.snd.bytes then some .snd else if l=Kw.lv.bytes then some .lv else if l=Kw.add.bytes then some .add else
 if l=Kw.sub.bytes then some .sub else if l=Kw.less.bytes then some .less else if l=Kw.loop.bytes then some .loop else
 if l=Kw.new.bytes then some .new else none
theorem r8(h:xS c=some a):c=a.bytes:=by
 unfold xS at h
 repeat' (split at h;· simp at h;subst h;assumption)
 simp at h
theorem Br(k):xS k.bytes=some k:=by cases k<;>decide
inductive Cl|opn|cls|wB|num|uj|bad|kw (k:Kw)
 deriving DecidableEq,Repr
def Cl.bytes:Cl->List UInt8
 |.opn=>[40]
 |.cls=>[41]
 |.wB=>[78,65,77,69]
 |.num=>[78,85,77,66,69,82]
 |.uj=>[82,69,71,73,79,78]
 |.bad=>[66,65,68]
 |.kw k=>k.bytes
def js(l:List UInt8)(n:Nat):Cl:=match xS l with
 |some k=>.kw k
 |none=>if n<=8 then .wB else .bad
def bX(l:List UInt8):Nat×Cl:=
 if 0<run 97 122 l then
  (run 97 122 l,js (l.take (run 97 122 l)) (run 97 122 l))
 else if 0<run 48 57 l then
  (run 48 57 l,if fk (l.take (run 48 57 l)) 4 then .num else .bad)
 else match l with
  |[]=>(1,.bad)
  |c::r=>
   if c=35 then (run 48 57 r+1,if fk (r.take (run 48 57 r)) 3 then .uj else .bad)
   else (1,if c=40 then .opn else if c=41 then .cls else .bad)
theorem nC(l):0<(bX l).1:=by
 unfold bX;split
 ·assumption
 ·split
  ·assumption
  ·split
   ·simp
   ·split<;>simp
theorem sS(l)(h:l≠[]):(bX l).1<=l.length:=by
 unfold bX;split
 ·exact pQ _ _ _
 ·split
  ·exact pQ _ _ _
  ·split
   ·exact absurd rfl h
   ·rename_i c r _ _;split
    ·have:=pQ 48 57 r;simp;omega
    ·simp
theorem Kc(s):mB s [] [108,101,116,32,112,97,105,114,32,102,115,116,32,115,110,100,32,105,102,32,97,100,100,32,115,117,98,32,108,101,115,115,32,108,111,111,112,32,110,101,119]=(xS s).isSome:=by
 have e:mB s [] [108,101,116,32,112,97,105,114,32,102,115,116,32,115,110,100,32,105,102,32,97,100,100,32,115,117,98,32,108,101,115,115,32,108,111,111,112,32,110,101,119]
  = ((Kw.dV.bytes==s)||((Kw.pair.bytes==s)||((Kw.fst.bytes==s)||((Kw.snd.bytes==s)||((Kw.lv.bytes==s)||((Kw.add.bytes==s)||((Kw.sub.bytes==s)||((Kw.less.bytes==s)||((Kw.loop.bytes==s)||(Kw.new.bytes==s)))))))))):=rfl
 rw[e];cases h:xS s with
 |some k=>have:=r8 h;subst this;cases k<;>decide
 |none=>
  have a:∀k:Kw,(k.bytes==s)=false:=λk=>by
   rw[aH];intro e;rw[<-e,Br]at h;cases h
  simp only[a];rfl
structure Tk where
 s:List UInt8
 at_:Nat
 c:Cl
 deriving Repr
variable {y z:List Tk}
def jJ(c:UInt8):Bool:=c==32||c==10
def toks:Nat->Nat->List UInt8->List Tk
 |0,_,_=>[]
 |_+1,_,[]=>[]
 |f+1,p,c::r=>
  if jJ c then toks f (p+1) r
  else ⟨(c::r).take (bX (c::r)).1,p,(bX (c::r)).2⟩::toks f (p+(bX (c::r)).1) ((c::r).drop (bX (c::r)).1)
theorem Oc:∀(f g p:Nat)(l:List UInt8),l.length<=f->l.length<=g->toks f p l=toks g p l:=by
 intro f
 induction f with
 |zero=>intro g p l h1 h2;have:l=[]:=dE.1 (by omega);subst this;cases g<;>rfl
 |succ f a=>
  intro g p l h1 h2;cases l with
  |nil=>cases g<;>rfl
  |cons c r=>
   cases g with
   |zero=>simp at h2
   |succ g=>
    simp at h1 h2;simp[toks];have b:=nC (c::r);split
    ·exact a g _ r (by omega) (by omega)
    ·rw[a g _ _ (by simp;omega) (by simp;omega)]
def tokens(l:List UInt8):List Tk:=toks l.length 0 l
theorem Ke(f p:Nat)(c)(r)(h:jJ c=true):toks (f+1) p (c::r)=toks f (p+1) r:=by simp[toks,h]
theorem QP(f p:Nat)(c)(r)(h:jJ c=false):toks (f+1) p (c::r)=⟨(c::r).take (bX (c::r)).1,p,(bX (c::r)).2⟩::toks f (p+(bX (c::r)).1) ((c::r).drop (bX (c::r)).1):=by simp[toks,h]
inductive Wt|e|word|close|name|region
 deriving DecidableEq,Repr
variable {b:List Wt}
def Wt.bytes:Wt->List UInt8
 |.e=>[101]
 |.word=>[119,111,114,100]
 |.close=>[41]
 |.name=>[78,65,77,69]
 |.region=>[82,69,71,73,79,78]
def fY(k:Kw)(a:Bool):List Wt:=
 match k,a with
 |.dV,_=>[.name,.e,.e,.close]
 |.loop,_=>[.e,.name,.e,.e,.close]
 |.pair,true=>[.region,.e,.e,.close]
 |.new,true=>[.region,.e,.close]
 |.pair,false=>[.e,.e,.close]
 |.add,_=>[.e,.e,.close]
 |.sub,_=>[.e,.e,.close]
 |.less,_=>[.e,.e,.close]
 |.fst,_=>[.e,.close]
 |.snd,_=>[.e,.close]
 |.lv,_=>[.e,.e,.e,.close]
 |.new,false=>[]
def jK(c:Cl)(a:Bool):List Wt:=match c with
 |.kw k=>fY k a
 |_=>[]
def cN(a:Bool)(b:Nat):List Tk->List Wt->Option Nat
 |[],[]=>none
 |[],_::_=>some b
 |t::_,[]=>some t.at_
 |t::d,.e::p=>match t.c with
  |.opn=>cN a b d (.word::p)
  |.num=>cN a b d p
  |.wB=>cN a b d p
  |_=>some t.at_
 |t::d,.word::p=>if jK t.c a=[] then some t.at_ else cN a b d (jK t.c a++p)
 |t::d,.close::p=>if t.c=.cls then cN a b d p else some t.at_
 |t::d,.name::p=>if t.c=.wB then cN a b d p else some t.at_
 |t::d,.region::p=>if t.c=.uj then cN a b d p else some t.at_
def jt(a:Bool)(l:List UInt8):Option Nat:=cN a l.length (tokens l) [.e]
theorem Kf(c:Cl)(a):(jK c a).length<=5:=by
 cases c with
 |kw k=>cases k<;>cases a<;>decide
 |_=>simp[jK]
theorem xT:∀(f p:Nat)(l:List UInt8),(toks f p l).length<=l.length:=by
 intro f
 induction f with
 |zero=>intro p l;simp[toks]
 |succ f a=>
  intro p l;cases l with
  |nil=>simp[toks]
  |cons c r=>
   simp[toks];split
   ·have:=a (p+1) r;simp;omega
   ·have b:=nC (c::r);have:=a (p+(bX (c::r)).1) ((c::r).drop (bX (c::r)).1);simp at this;simp;omega
inductive PT where
 |num (p:Nat) (s:List UInt8)
 |name (p:Nat) (s:List UInt8)
 |node (p:Nat) (k:Kw) (nm rg:List UInt8) (kids:List PT)
variable {K:List PT}
mutual
def PT.cnt:PT->Nat
 |.num _ _=>1
 |.name _ _=>1
 |.node _ _ _ _ a=>1+aU a
def aU:List PT->Nat
 |[]=>0
 |t::r=>t.cnt+aU r
end
mutual
def PT.dn:PT->Nat
 |.num _ _=>0
 |.name _ _=>0
 |.node _ k _ _ a=>(if k=.pair then 1 else 0)+eS a
def eS:List PT->Nat
 |[]=>0
 |t::r=>t.dn+eS r
end
mutual
inductive PE(jf:Bool): List Tk->PT->List Tk->Prop
 |num {t:Tk} {r:List Tk}:t.c=.num->PE jf (t::r) (.num t.at_ t.s) r
 |name {t:Tk} {r:List Tk}:t.c=.wB->PE jf (t::r) (.name t.at_ t.s) r
 | node {t u:Tk} {k:Kw} {r r':List Tk} {nm rg:List UInt8} {kids:List PT}:t.c=.opn->u.c=.kw k->fY k jf≠[]->
   PW jf (fY k jf) r nm rg kids r'->PE jf (t::u::r) (.node t.at_ k nm rg kids) r'
inductive PW(jf:Bool): List Wt->List Tk->List UInt8->List UInt8->List PT->List Tk->Prop
 |nil {r:List Tk}:PW jf [] r [] [] [] r
 |close {t:Tk} {ws:List Wt} {r r':List Tk} {nm rg:List UInt8} {kids:List PT}:t.c=.cls->PW jf ws r nm rg kids r'->PW jf (.close::ws) (t::r) nm rg kids r'
 |name {t:Tk} {ws:List Wt} {r r':List Tk} {nm rg:List UInt8} {kids:List PT}:t.c=.wB->PW jf ws r nm rg kids r'->PW jf (.name::ws) (t::r) t.s rg kids r'
 |region {t:Tk} {ws:List Wt} {r r':List Tk} {nm rg:List UInt8} {kids:List PT}:t.c=.uj->PW jf ws r nm rg kids r'->PW jf (.region::ws) (t::r) nm t.s kids r'
 |e {e:PT} {ws:List Wt} {l r r':List Tk} {nm rg:List UInt8} {kids:List PT}:PE jf l e r->PW jf ws r nm rg kids r'->PW jf (.e::ws) l nm rg (e::kids) r'
end
mutual
theorem PE.sound{a}{b:Nat}:∀{l:List Tk}{e:PT}{r:List Tk},PE a l e r->∀p,cN a b l (.e::p)=cN a b r p
 |_,_,_,.num h,p=>by simp[cN,h]
 |_,_,_,.name h,p=>by simp[cN,h]
 |_,_,_,.node (k:=k) h1 h2 h3 f,p=>by
  have:=PW.sound (b:=b) f p;simp only[cN,h1,h2,jK];rw[ag h3];exact this
theorem PW.sound{a}{b:Nat}:∀{d:List Wt}{l:List Tk}{g i:List UInt8}{c:List PT}{r:List Tk},PW a d l g i c r->∀p,cN a b l (d++p)=cN a b r p
 |_,_,_,_,_,_,.nil,p=>rfl
 |_,_,_,_,_,_,.close h h1,p=>by have:=PW.sound (b:=b) h1 p;simp only[aS,cN,ah h];exact this
 |_,_,_,_,_,_,.name h h1,p=>by have:=PW.sound (b:=b) h1 p;simp only[aS,cN,ah h];exact this
 |_,_,_,_,_,_,.region h h1,p=>by have:=PW.sound (b:=b) h1 p;simp only[aS,cN,ah h];exact this
 |_,_,_,_,_,_,.e (ws:=d) h h1,p=>by have:=PE.sound (b:=b) h (d++p);rw[aS,this];exact PW.sound h1 p
end
mutual
theorem PE.len{a}:∀{l:List Tk}{e:PT}{r:List Tk},PE a l e r->r.length<l.length
 |_,_,_,.num _=>by simp
 |_,_,_,.name _=>by simp
 |_,_,_,.node _ _ _ c=>by have:=PW.len c;simp;omega
theorem PW.len{a}:∀{d:List Wt}{l:List Tk}{f g:List UInt8}{b:List PT}{r:List Tk},PW a d l f g b r->r.length<=l.length
 |_,_,_,_,_,_,.nil=>bS
 |_,_,_,_,_,_,.close _ h1=>by have:=PW.len h1;simp;omega
 |_,_,_,_,_,_,.name _ h1=>by have:=PW.len h1;simp;omega
 |_,_,_,_,_,_,.region _ h1=>by have:=PW.len h1;simp;omega
 |_,_,_,_,_,_,.e h h1=>by have:=PE.len h;have:=PW.len h1;omega
end
theorem G7(k)(a):Wt.word∉fY k a:=by cases k<;>cases a<;>decide
theorem G8(a)(b:Nat):∀n:Nat,(∀l:List Tk,l.length<=n->(∃e r,PE a l e r)\/(∃q,∀p,cN a b l (.e::p)=some q))/\(∀j:List Wt,Wt.word∉j->∀l:List Tk,l.length<=n->(∃v w d r,PW a j l v w d r)\/(∃q,∀p,cN a b l (j++p)=some q)):=by
 intro n
 induction n with
 |zero=>
  have y:∀l:List Tk,l.length<=0->(∃e r,PE a l e r)\/(∃q,∀p,cN a b l (.e::p)=some q):=by
   intro l s;have:l=[]:=dE.1 (by omega);subst this;exact aE ⟨b,λp=>rfl⟩
  refine⟨y,?_⟩;intro j i l s;have:l=[]:=dE.1 (by omega);subst this;cases j with
  |nil=>exact aD ⟨_,_,_,_,.nil⟩
  |cons x j=>exact aE ⟨b,λp=>rfl⟩
 |succ n B=>
  have y:∀l:List Tk,l.length<=n+1->(∃e r,PE a l e r)\/(∃q,∀p,cN a b l (.e::p)=some q):=by
   intro l s;cases l with
   |nil=>exact aE ⟨b,λp=>rfl⟩
   |cons t r=>
    cases f:t.c with
    |num=>exact aD ⟨_,_,.num f⟩
    |wB=>exact aD ⟨_,_,.name f⟩
    |opn=>
     cases r with
     |nil=>exact aE ⟨b,λp=>by simp[cN,f]⟩
     |cons u r=>
      by_cases i:jK u.c a=[]
      ·exact aE ⟨u.at_,λp=>by simp[cN,f,i]⟩
      ·cases z:u.c with
       |kw k=>
        rw[z]at i;simp at s;rcases B.2 (fY k a) (G7 k a) r (by omega) with⟨v,w,d,A,h⟩|⟨q,h⟩
        ·exact aD ⟨_,_,.node f z i h⟩
        ·refine aE ⟨q,λp=>?_⟩;have:=h p;simp[cN,f,z];rw[ag i];exact this
       |_=>rw[z]at i;exact absurd rfl i
    |_=>exact aE ⟨t.at_,λp=>by simp[cN,f]⟩
  refine⟨y,?_⟩;intro j
  induction j with
  |nil=>intro _ l _;exact aD ⟨_,_,_,_,.nil⟩
  |cons x j m=>
   intro i l s;have o:=λh=>i (cj _ h);cases x with
   |word=>exact absurd eC i
   |e=>
    rcases y l s with⟨e,r,h⟩|⟨q,h⟩
    ·rcases m o r (by have:=h.len;omega) with⟨v,w,d,A,g⟩|⟨q,g⟩
     ·exact aD ⟨_,_,_,_,.e h g⟩
     ·exact aE ⟨q,λp=>by rw[aS,h.sound];exact g p⟩
    ·exact aE ⟨q,λp=>h _⟩
   |close=>
    cases l with
    |nil=>exact aE ⟨b,λp=>rfl⟩
    |cons t r=>
     by_cases f:t.c=.cls
     ·rcases m o r (by simp at s;omega) with⟨v,w,d,A,g⟩|⟨q,g⟩
      ·exact aD ⟨_,_,_,_,.close f g⟩
      ·exact aE ⟨q,λp=>by simp[cN,ah f];exact g p⟩
     ·exact aE ⟨t.at_,λp=>by simp[cN,ag f]⟩
   |name=>
    cases l with
    |nil=>exact aE ⟨b,λp=>rfl⟩
    |cons t r=>
     by_cases f:t.c=.wB
     ·rcases m o r (by simp at s;omega) with⟨v,w,d,A,g⟩|⟨q,g⟩
      ·exact aD ⟨_,_,_,_,.name f g⟩
      ·exact aE ⟨q,λp=>by simp[cN,ah f];exact g p⟩
     ·exact aE ⟨t.at_,λp=>by simp[cN,ag f]⟩
   |region=>
    cases l with
    |nil=>exact aE ⟨b,λp=>rfl⟩
    |cons t r=>
     by_cases f:t.c=.uj
     ·rcases m o r (by simp at s;omega) with⟨v,w,d,A,g⟩|⟨q,g⟩
      ·exact aD ⟨_,_,_,_,.region f g⟩
      ·exact aE ⟨q,λp=>by simp[cN,ah f];exact g p⟩
     ·exact aE ⟨t.at_,λp=>by simp[cN,ag f]⟩
theorem qv(h:jt w c=none):∃e,PE w (tokens c) e []:=by
 unfold jt at h;rcases (G8 w c.length (tokens c).length).1 (tokens c) bS with⟨e,r,a⟩|⟨q,b⟩
 ·rw[a.sound]at h;cases r with
  |nil=>exact⟨e,a⟩
  |cons t r=>simp[cN]at h
 ·rw[b]at h;cases h
def sU(l:List Wt):Nat:=(l.filter (·=.e)).length
theorem G9{done:List Wt}(h:fY a w=done++.close::b):b=[]:=by
 cases a<;>cases w<;>simp[fY]at h<;>
 rcases done with _|⟨c,_|⟨d,_|⟨f,_|⟨g,_|⟨i,done⟩⟩⟩⟩⟩<;>simp at h<;>simp_all
theorem Bs{done:List Wt}(h:fY a w=done++.name::b):((a=.dV/\sU done=0)\/(a=.loop/\sU done=1))/\Wt.name∉done/\Wt.name∉b:=by
 cases a<;>cases w<;>simp[fY]at h<;>
 rcases done with _|⟨c,_|⟨d,_|⟨f,_|⟨g,_|⟨i,done⟩⟩⟩⟩⟩<;>simp at h<;>(try simp_all [sU])<;>(try obtain⟨_,rfl⟩:=h)<;>(try subst_vars)<;>simp
theorem Fj{done:List Wt}(h:fY a w=done++.region::b):Wt.region∉done/\Wt.region∉b:=by
 cases a<;>cases w<;>simp[fY]at h<;>
 rcases done with _|⟨c,_|⟨d,_|⟨f,_|⟨g,_|⟨i,done⟩⟩⟩⟩⟩<;>simp at h<;>(try simp_all)<;>(try subst_vars)<;>simp
theorem UI{done:List Wt}(h:fY a w=done++.e::b):Wt.name∈done\/(a≠.dV/\(a=.loop->sU done=0)):=by
 cases a<;>cases w<;>simp[fY]at h<;>
 rcases done with _|⟨c,_|⟨d,_|⟨f,_|⟨g,_|⟨i,done⟩⟩⟩⟩⟩<;>simp at h<;>simp_all [sU]
theorem wJ{done:List Wt}{x:Wt}(h:fY a w=done++x::b)(c:x≠.close):b≠[]:=by
 cases a<;>cases w<;>simp[fY]at h<;>
 rcases done with _|⟨d,_|⟨f,_|⟨g,_|⟨i,_|⟨j,done⟩⟩⟩⟩⟩<;>simp at h<;>intro e<;>subst e<;>simp_all
inductive Ed(Good:List Tk->PT->List Tk->Prop): List Wt->List Tk->List UInt8->List UInt8->List PT->List Tk->Prop
 |nil {r:List Tk}:Ed Good [] r [] [] [] r
 |close {t:Tk} {ws:List Wt} {r r':List Tk} {nm rg:List UInt8} {kids:List PT}:t.c=.cls->Ed Good ws r nm rg kids r'->Ed Good (.close::ws) (t::r) nm rg kids r'
 |name {t:Tk} {ws:List Wt} {r r':List Tk} {nm rg:List UInt8} {kids:List PT}:t.c=.wB->Ed Good ws r nm rg kids r'->Ed Good (.name::ws) (t::r) t.s rg kids r'
 |region {t:Tk} {ws:List Wt} {r r':List Tk} {nm rg:List UInt8} {kids:List PT}:t.c=.uj->Ed Good ws r nm rg kids r'->Ed Good (.region::ws) (t::r) nm t.s kids r'
 |e {e:PT} {ws:List Wt} {l r r':List Tk} {nm rg:List UInt8} {kids:List PT}:Good l e r->Ed Good ws r nm rg kids r'->Ed Good (.e::ws) l nm rg (e::kids) r'
theorem Ed.wK{Good}(h:Ed Good b y c P K z)(d:Wt.name∉b):c=[]:=by
 induction h with
 |nil=>rfl
 |close _ _ a=>exact a (λh=>d (cj _ h))
 |name _ _ _=>exact absurd eC d
 |region _ _ a=>exact a (λh=>d (cj _ h))
 |e _ _ a=>exact a (λh=>d (cj _ h))
theorem Ed.r9{Good}(h:Ed Good b y c P K z)(d:Wt.region∉b):P=[]:=by
 induction h with
 |nil=>rfl
 |close _ _ a=>exact a (λh=>d (cj _ h))
 |region _ _ _=>exact absurd eC d
 |name _ _ a=>exact a (λh=>d (cj _ h))
 |e _ _ a=>exact a (λh=>d (cj _ h))
mutual
theorem PE.used{a}:∀{l:List Tk}{e:PT}{r:List Tk},PE a l e r->e.cnt+r.length<=l.length/\e.dn+r.length+1<=l.length
 |_,_,_,.num _=>by simp[PT.cnt,PT.dn];omega
 |_,_,_,.name _=>by simp[PT.cnt,PT.dn];omega
 |_,_,_,.node (k:=k) _ _ _ c=>by have:=PW.used c;simp[PT.cnt,PT.dn];split<;>omega
theorem PW.used{a}:∀{d:List Wt}{l:List Tk}{f g:List UInt8}{b:List PT}{r:List Tk},PW a d l f g b r->aU b+r.length<=l.length/\eS b+r.length<=l.length
 |_,_,_,_,_,_,.nil=>by simp[aU,eS]
 |_,_,_,_,_,_,.close _ h1=>by have:=PW.used h1;simp;omega
 |_,_,_,_,_,_,.name _ h1=>by have:=PW.used h1;simp;omega
 |_,_,_,_,_,_,.region _ h1=>by have:=PW.used h1;simp;omega
 |_,_,_,_,_,_,.e h h1=>by have:=PE.used h;have:=PW.used h1;simp only[aU,eS];omega
end
theorem PE.suffix{e}(h:PE w y e z):∃t a,y=t::a/\(t.c=.num\/t.c=.wB\/t.c=.opn):=by
 cases h with
 |num h=>exact⟨_,_,rfl,aD h⟩
 |name h=>exact⟨_,_,rfl,aE (aD h)⟩
 |node h _ _ _=>exact⟨_,_,rfl,aE (aE h)⟩
mutual
theorem PE.drop{a}:∀{l:List Tk}{e:PT}{r:List Tk},PE a l e r->∃n,r=l.drop n/\n<=l.length
 |_,_,_,.num _=>⟨1,by simp,by simp⟩
 |_,_,_,.name _=>⟨1,by simp,by simp⟩
 |_,_,_,.node _ _ _ i=>by obtain⟨n,h,c⟩:=PW.drop i;exact⟨n+2,by simp[h],by simp;omega⟩
theorem PW.drop{a}:∀{j:List Wt}{l:List Tk}{k o:List UInt8}{b:List PT}{r:List Tk},PW a j l k o b r->∃n,r=l.drop n/\n<=l.length
 |_,_,_,_,_,_,.nil=>⟨0,by simp,by simp⟩
 |_,_,_,_,_,_,.close _ h1=>by obtain⟨n,h,c⟩:=PW.drop h1;exact⟨n+1,by simp[h],by simp;omega⟩
 |_,_,_,_,_,_,.name _ h1=>by obtain⟨n,h,c⟩:=PW.drop h1;exact⟨n+1,by simp[h],by simp;omega⟩
 |_,_,_,_,_,_,.region _ h1=>by obtain⟨n,h,c⟩:=PW.drop h1;exact⟨n+1,by simp[h],by simp;omega⟩
 |_,_,_,_,_,_,.e h h1=>by
  obtain⟨n,f,c⟩:=PE.drop h;obtain⟨m,d,g⟩:=PW.drop h1;refine⟨n+m,by rw[d,f,lg],?_⟩;rw[f]at g;simp at g;omega
end
open Go.Lib (decDigits)
inductive Ty where
 |n
 |p (r:Nat) (a b:Ty)
 deriving DecidableEq
variable {M:Ty}
def Ty.txt:Ty->List UInt8
 |.n=>[110]
 |.p r a b=>60::(decDigits r++58::(a.txt++(b.txt++[62])))
def Ty.size:Ty->Nat
 |.n=>0
 |.p _ a b=>a.size+b.size+1
def Ty.bare:Ty->Ty
 |.n=>.n
 |.p _ a b=>.p 0 a.bare b.bare
def Ty.plain:Ty->List UInt8
 |.n=>[110]
 |.p _ a b=>60::(a.plain++(b.plain++[62]))
def sV(c:UInt8):Bool:=decide (48<=c.toNat)&&decide (c.toNat<=57)
theorem lS(u:Nat):∀c∈decDigits u,sV c=true:=by
 induction u using Nat.strongRecOn with
 |_ u d=>
  rw[decDigits];have b:∀k,k<10->sV (UInt8.ofNat (48+k))=true:=by
   intro k e;unfold sV;have:(UInt8.ofNat (48+k)).toNat=48+k:=by simp;omega
   rw[this];simp;omega
  split
  ·intro c a;rw[ax]at a;subst a;exact b u (by omega)
  ·intro c a;rw[aA]at a;rcases a with a|a
   ·exact d (u / 10) (by omega) c a
   ·rw[ax]at a;subst a;exact b _ (by omega)
theorem Bt{c}(h:sV c=true):c≠58/\c≠60/\c≠62/\c≠110:=by
 unfold sV at h;refine⟨?_,?_,?_,?_⟩<;>(intro e;subst e;revert h;decide)
def lf:Int->List UInt8->Nat
 |_,[]=>0
 |o,c::r=>
  let a:=if c=60 then o+1 else if c=62 then o-1 else o
  if a=0/\(c=110\/c=62) then 1 else 1+lf a r
theorem Mq(o:Int)(r):lf o (60::r)=1+lf (o+1) r:=by simp[lf]
theorem QQ(r):lf 1 (62::r)=1:=by simp[lf]
theorem UJ(o:Int)(r)(h:o≠1):lf o (62::r)=1+lf (o-1) r:=by
 have a:¬(o-1=0):=by omega
 simp[lf,a]
theorem XX(o:Int)(r)(h:o≠0):lf o (110::r)=1+lf o r:=by
 simp[lf,h]
theorem yU(o:Int)(c)(r)(h1:c≠60)(h2:c≠62)(h3:c≠110):lf o (c::r)=1+lf o r:=by
 simp[lf,h1,h2,h3]
theorem Ai(o:Int)(l r)(h:∀c∈l,sV c=true):lf o (l++r)=l.length+lf o r:=by
 induction l with
 |nil=>simp
 |cons c l b=>
  have a:=Bt (h c eC);rw[aS,yU o c _ a.2.1 a.2.2.1 a.2.2.2,b (λc a=>h c (cj _ a))];simp;omega
theorem Ee(t:Ty):∀(o:Int)(r:List UInt8),0<o->lf o (t.txt++r)=t.txt.length+lf o r:=by
 induction t with
 |n=>intro o r e;simp only[Ty.txt,aS,bC];rw[XX _ _ (by omega)];simp
 |p q a b c d=>
  intro o r e;simp only[Ty.txt,aS,aB];rw[Mq,Ai _ _ _ (lS q),yU _ 58 _ (by decide) (by decide) (by decide),c _ _ (by omega),d _ _ (by omega),bC,UJ _ _ (by omega)];simp;omega
theorem QR(t:Ty)(r):lf 0 (t.txt++r)=t.txt.length:=by
 cases t with
 |n=>simp[Ty.txt,lf]
 |p q a b=>
  simp only[Ty.txt,aS,aB];rw[Mq,Ai _ _ _ (lS q),yU _ 58 _ (by decide) (by decide) (by decide),Ee a _ _ (by omega),Ee b _ _ (by omega),bC,Int.zero_add,QQ];simp;omega
theorem Ha(l)(h:∀c∈l,sV c=true):mH l=0:=by
 induction l with
 |nil=>rfl
 |cons c l b=>
  have a:=Bt (h c eC);have:=b (λc a=>h c (cj _ a));unfold mH at this⊢;rw[eF,ag (by simpa using a.2.1)];exact this
theorem Fk(a b):mH (a++b)=mH a+mH b:=by simp[mH]
theorem Kg(c)(l):mH (c::l)=(if c=60 then 1 else 0)+mH l:=by
 unfold mH;rw[eF];by_cases h:c=60<;>simp[h];omega
theorem QS(t:Ty):mH t.txt=t.size:=by
 induction t with
 |n=>rfl
 |p q a b c d=>
  simp[Ty.txt,Ty.size,Kg,Fk,c,d,Ha _ (lS q)];have:mH []=0:=rfl;rw[this];simp;omega
theorem XY(t:Ty):t.txt≠[]:=by cases t<;>simp[Ty.txt]
theorem DI(t:Ty):∀(u:Ty)(r c:List UInt8),t.plain++r=u.plain++c->t.bare=u.bare/\r=c:=by
 induction t with
 |n=>intro u r c h;cases u with
  |n=>simp[Ty.plain]at h;exact⟨rfl,h⟩
  |p q a b=>simp[Ty.plain]at h
 |p q a b d e=>intro u r c h;cases u with
  |n=>simp[Ty.plain]at h
  |p g i j=>
   simp only[Ty.plain,aS,dP,aB,fC]at h;obtain⟨h1,h2⟩:=d _ _ _ h;obtain⟨h3,f⟩:=e _ _ _ h2;simp at f;exact⟨by simp[Ty.bare,h1,h3],f⟩
theorem Od(t u:Ty):(t.plain=u.plain)↔t.bare=u.bare:=by
 constructor
 ·intro h;exact (DI t u [] [] (by rw[h])).1
 ·intro h;have:∀t:Ty,t.plain=t.bare.plain:=by
   intro t;induction t with
   |n=>rfl
   |p q a b c d=>simp[Ty.plain,Ty.bare,<-c,<-d]
  rw[this t,this u,h]
def Ty.regs:Ty->Prop
 |.n=>True
 |.p r a b=>r<1000/\a.regs/\b.regs
def Ty.fit(t:Ty):Prop:=t.size<=127/\t.regs
theorem aco(r:Nat)(h:r<1000):(Go.Lib.decDigits r).length<=3:=by
 rw[Go.Lib.decDigits];split
 ·simp
 ·rw[Go.Lib.decDigits];split
  ·simp
  ·rw[Go.Lib.decDigits];split
   ·simp
   ·omega
theorem QT(t:Ty)(h:t.regs):t.txt.length<=7*t.size+1:=by
 induction t with
 |n=>simp[Ty.txt,Ty.size]
 |p r a b c d=>
  have h1:=c h.2.1;have h2:=d h.2.2;have h3:=aco r h.1;simp[Ty.txt,Ty.size];omega
theorem Fl(h:M.fit):M.txt.length<=1000:=by
 have:=QT M h.2;have:=h.1;omega
structure gH where
 e:Nat
 at_:Nat
 of:List (List UInt8)
variable {x:gH}{Y:Ty × gH}
abbrev dc:=List (List UInt8×Ty)
variable {u:dc}
def look(a:dc)(s:List UInt8):Option Ty:=(a.reverse.find? (λx=>x.1==s)).map (·.2)
def gY(a:gH)(e p:Nat):gH:=if a.e=0 then {a with e:=e,at_:=p} else a
def fin(id p:Nat)(x:Ty×gH):Ty×gH:=
 let a:=if x.2.e=0/\63<x.1.size then gY x.2 6 p else x.2
 (x.1,{a with of:=a.of.set id x.1.txt})
def dz(cls:List Nat)(k:Kw)(p e:Nat)(f:List Ty)(d:gH):Ty×gH:=
 match k,f with
 |.new,a::_=>(a,d)
 |.pair,[a,b]=>(.p (cls.getD e 0) a b,d)
 |.fst,.p _ a _::_=>(a,d)
 |.snd,.p _ _ b::_=>(b,d)
 |.lv,[a,b,c]=>if a=.n/\b.bare=c.bare then (b,d) else (.n,gY d 5 p)
 |.loop,[a,b,c]=>if a=.n/\b.bare=c.bare then (b,d) else (.n,gY d 5 p)
 |.add,[a,b]=>if a=.n/\b=.n then (.n,d) else (.n,gY d 5 p)
 |.sub,[a,b]=>if a=.n/\b=.n then (.n,d) else (.n,gY d 5 p)
 |.less,[a,b]=>if a=.n/\b=.n then (.n,d) else (.n,gY d 5 p)
 |_,_=>(.n,gY d 5 p)
mutual
def aV(cls:List Nat):PT->Nat->Nat->dc->gH->Ty×gH
 |.num p _,id,_,_,g=>fin id p (.n,g)
 |.name p s,id,_,f,g=>fin id p (match look f s with
  |some t=>(t,g)
  |none=>(.n,gY g 4 p))
 |.node p k i _ h,id,d,f,g=>
  fin id p (if k=.dV then gI cls i h (id+1) d f g
   else
    let x:=if k=.loop then df cls i h (id+1) d f g else cP cls h (id+1) (d+if k=.pair then 1 else 0) f g
    if x.2.e≠0 then (.n,x.2) else dz cls k p d x.1 x.2)
def cP(cls:List Nat):List PT->Nat->Nat->dc->gH->List Ty×gH
 |[],_,_,_,g=>([],g)
 |a::r,id,d,f,g=>
  let x:=aV cls a id d f g
  let y:=cP cls r (id+a.cnt) (d+a.dn) f x.2
  (x.1::y.1,y.2)
def gI(cls:List Nat)(i:List UInt8):List PT->Nat->Nat->dc->gH->Ty×gH
 |[a,b],id,d,f,g=>
  let x:=aV cls a id d f g
  aV cls b (id+a.cnt) (d+a.dn) (f++[(i,x.1)]) x.2
 |_,_,_,_,g=>(.n,g)
def df(cls:List Nat)(i:List UInt8):List PT->Nat->Nat->dc->gH->List Ty×gH
 |[a,b,c],id,d,f,g=>
  let x:=aV cls a id d f g
  let y:=aV cls b (id+a.cnt) (d+a.dn) f x.2
  let z:=aV cls c (id+a.cnt+b.cnt) (d+a.dn+b.dn) (f++[(i,y.1)]) y.2
  ([x.1,y.1,z.1],z.2)
 |_,_,_,_,g=>([],g)
end
def lG(a:dc)(b:gH):Prop:=(∀x∈a,x.2.fit)/\(b.e=0->∀x∈a,x.2.size<=63)
def Bu(a:gH)(x:Ty×gH):Prop:=x.1.fit/\(x.2.e=0->a.e=0/\x.1.size<=63)/\x.2.of.length=a.of.length
def Mr(a:gH)(x:Ty×gH):Prop:=x.1.fit/\(x.2.e=0->a.e=0)/\x.2.of.length=a.of.length
theorem oz:Ty.n.fit:=⟨by simp[Ty.size],trivial⟩
theorem si(a)(e p:Nat):(gY a e p).of.length=a.of.length:=by unfold gY;split<;>rfl
theorem yV(a)(e p:Nat)(b:e≠0):(gY a e p).e≠0:=by unfold gY;split<;>simp_all
theorem Kh{id p:Nat}(h:Mr x Y):Bu x (fin id p Y):=by
 obtain⟨h1,h2,h3⟩:=h;by_cases b:Y.2.e=0/\63<Y.1.size
 ·have e:fin id p Y=(Y.1,{ (gY Y.2 6 p) with of:=(gY Y.2 6 p).of.set id Y.1.txt}):=by simp only[fin];rw[ah b]
  rw[e];refine⟨h1,λa=>absurd a (yV _ _ _ (by decide)),?_⟩;simp;rw[si];exact h3
 ·have e:fin id p Y=(Y.1,{Y.2 with of:=Y.2.of.set id Y.1.txt}):=by simp only[fin];rw[ag b]
  rw[e];refine⟨h1,λa=>⟨h2 a,?_⟩,by simp;exact h3⟩;exact jQ (λh=>b ⟨a,h⟩)
theorem Bv(h:look u c=some M):∃x∈u,x.2=M:=by
 unfold look at h;rw[bU]at h;obtain⟨x,a,rfl⟩:=h;exact⟨x,by have:=dU a;simpa using this,rfl⟩
theorem Bw{cls}{p:Nat}{j}(l:∀d∈cls,d<1000)(g:∀t∈j,t.fit/\t.size<=63):Mr x (dz cls a p v j x):=by
 have m:cls.getD v 0<1000:=by
  rw[aZ];cases h:cls[v]? with
  |none=>simp
  |some d=>exact l d (aq h)
 have f:Mr x (Ty.n,gY x 5 p):=⟨oz,λh=>absurd h (yV _ _ _ (by decide)),si _ _ _⟩;unfold dz;split
 ·rename_i e _;exact⟨(g e (by simp)).1,λh=>h,rfl⟩
 ·rename_i e b;have i:=g e (by simp);have o:=g b (by simp);exact⟨⟨by simp[Ty.size];omega,⟨m,i.1.2,o.1.2⟩⟩,λh=>h,rfl⟩
 ·rename_i r e b _;have i:=g (.p r e b) (by simp);exact⟨⟨by show e.size<=127;have:=i.2;simp[Ty.size]at this;omega,i.1.2.2.1⟩,λh=>h,rfl⟩
 ·rename_i r e b _;have i:=g (.p r e b) (by simp);exact⟨⟨by show b.size<=127;have:=i.2;simp[Ty.size]at this;omega,i.1.2.2.2⟩,λh=>h,rfl⟩
 ·rename_i e b c;split
  ·exact⟨(g b (by simp)).1,λh=>h,rfl⟩
  ·exact f
 ·rename_i e b c;split
  ·exact⟨(g b (by simp)).1,λh=>h,rfl⟩
  ·exact f
 ·split
  ·exact⟨oz,λh=>h,rfl⟩
  ·exact f
 ·split
  ·exact⟨oz,λh=>h,rfl⟩
  ·exact f
 ·split
  ·exact⟨oz,λh=>h,rfl⟩
  ·exact f
 ·exact f
theorem Hb(cls)(d)(t):∀(id b:Nat)(c:dc)(e:gH),cP cls (d++[t]) id b c e=((cP cls d id b c e).1++[(aV cls t (id+aU d) (b+eS d) c (cP cls d id b c e).2).1],(aV cls t (id+aU d) (b+eS d) c (cP cls d id b c e).2).2):=by
 induction d with
 |nil=>intro id b c e;simp[cP,aU,eS]
 |cons a r f=>
  intro id b c e;simp only[aS,cP,f,aU,eS];rw[aY id,aY b]
theorem Ki(cls)(d):∀(id b:Nat)(c:dc)(e:gH),(cP cls d id b c e).1.length=d.length:=by
 induction d with
 |nil=>intro id b c e;simp[cP]
 |cons a r f=>intro id b c e;simp[cP,f]
theorem lG.on{a}(h:lG u x)(b:a.e=0->x.e=0):lG u a:=⟨h.1,λc=>h.2 (b c)⟩
theorem lG.snoc{nm}(h:lG u x)(b:Bu x Y):lG (u++[(nm,Y.1)]) Y.2:=by
 constructor
 ·intro y a;rcases aA.1 a with a|a
  ·exact h.1 y a
  ·rw[ax]at a;subst a;exact b.1
 ·intro c y a;rcases aA.1 a with a|a
  ·exact h.2 (b.2.1 c).1 y a
  ·rw[ax]at a;subst a;exact (b.2.1 c).2
def XZ(a:gH)(x:List Ty×gH):Prop:=(∀t∈x.1,t.fit)/\(x.2.e=0->a.e=0/\∀t∈x.1,t.size<=63)/\x.2.of.length=a.of.length
mutual
theorem iD(cls)(m:∀x∈cls,x<1000):∀(t:PT)(id d:Nat)(f:dc)(g:gH),lG f g->Bu g (aV cls t id d f g)
 |.num p s,id,d,f,g,h=>by simp only[aV];exact Kh ⟨oz,λh=>h,rfl⟩
 |.name p s,id,d,f,g,h=>by
  simp only[aV];refine Kh ?_;split
  ·rename_i t j;obtain⟨x,o,rfl⟩:=Bv j;exact⟨h.1 x o,λh=>h,rfl⟩
  ·exact⟨oz,λh=>absurd h (yV _ _ _ (by decide)),si _ _ _⟩
 |.node p k n B i,id,d,f,g,h=>by
  simp only[aV];refine Kh ?_;split
  ·have:=Hc cls m n i (id+1) d f g h;exact⟨this.1,λl=>(this.2.1 l),this.2.2⟩
  ·have o:XZ g (if k=.loop then df cls n i (id+1) d f g else cP cls i (id+1) (d+if k=.pair then 1 else 0) f g):=by
    split
    ·exact Ef cls m n i _ _ f g h
    ·exact vp cls m i _ _ f g h
   generalize (if k=.loop then df cls n i (id+1) d f g else cP cls i (id+1) (d+if k=.pair then 1 else 0) f g)=x at o;split
   ·rename_i u;exact⟨oz,λl=>absurd l u,o.2.2⟩
   ·rename_i u;have l:x.2.e=0:=by simpa using u
    have y:=Bw (a:=k) (p:=p) (v:=d) (x:=x.2) m (λt j=>⟨o.1 t j,(o.2.1 l).2 t j⟩);exact⟨y.1,λh1=>(o.2.1 (y.2.1 h1)).1,y.2.2.trans o.2.2⟩
theorem vp(cls)(m:∀x∈cls,x<1000):∀(v:List PT)(id d:Nat)(f:dc)(g:gH),lG f g->XZ g (cP cls v id d f g)
 |[],_,_,_,g,_=>by simp only[cP];exact⟨by simp,λh=>⟨h,by simp⟩,rfl⟩
 |a::r,id,d,f,g,h=>by
  simp only[cP];have h1:=iD cls m a id d f g h;have h2:=vp cls m r (id+a.cnt) (d+a.dn) f (aV cls a id d f g).2 (h.on (λl=>(h1.2.1 l).1));refine⟨?_,?_,h2.2.2.trans h1.2.2⟩
  ·intro t j;rcases bf.1 j with rfl|j
   ·exact h1.1
   ·exact h2.1 t j
  ·intro l;have q:=h2.2.1 l;have w:=h1.2.1 q.1;refine⟨w.1,?_⟩;intro t j;rcases bf.1 j with rfl|j
   ·exact w.2
   ·exact q.2 t j
theorem Hc(cls)(m:∀x∈cls,x<1000)(n):∀(v:List PT)(id d:Nat)(f:dc)(g:gH),lG f g->Mr g (gI cls n v id d f g)
 |[a,b],id,d,f,g,h=>by
  simp only[gI];have h1:=iD cls m a id d f g h;have h2:=iD cls m b (id+a.cnt) (d+a.dn) (f++[(n,(aV cls a id d f g).1)]) (aV cls a id d f g).2 (h.snoc h1);exact⟨h2.1,λl=>(h1.2.1 (h2.2.1 l).1).1,h2.2.2.trans h1.2.2⟩
 |[],_,_,_,g,_=>by simp only[gI];exact⟨oz,λh=>h,rfl⟩
 |[_],_,_,_,g,_=>by simp only[gI];exact⟨oz,λh=>h,rfl⟩
 |_::_::_::_,_,_,_,g,_=>by simp only[gI];exact⟨oz,λh=>h,rfl⟩
theorem Ef(cls)(m:∀x∈cls,x<1000)(n):∀(v:List PT)(id d:Nat)(f:dc)(g:gH),lG f g->XZ g (df cls n v id d f g)
 |[a,b,c],id,d,f,g,h=>by
  simp only[df];have h1:=iD cls m a id d f g h;have h2:=iD cls m b (id+a.cnt) (d+a.dn) f (aV cls a id d f g).2 (h.on (λl=>(h1.2.1 l).1));have h3:=iD cls m c (id+a.cnt+b.cnt) (d+a.dn+b.dn) (f++[(n,(aV cls b (id+a.cnt) (d+a.dn) f (aV cls a id d f g).2).1)]) (aV cls b (id+a.cnt) (d+a.dn) f (aV cls a id d f g).2).2 ((h.on (λl=>(h1.2.1 l).1)).snoc h2);refine⟨?_,?_,h3.2.2.trans (h2.2.2.trans h1.2.2)⟩
  ·intro t j;simp only[bf,fA,lC]at j;rcases j with rfl|rfl|rfl
   ·exact h1.1
   ·exact h2.1
   ·exact h3.1
  ·intro l;have z:=h3.2.1 l;have A:=h2.2.1 z.1;have w:=h1.2.1 A.1;refine⟨w.1,?_⟩;intro t j;simp only[bf,fA,lC]at j;rcases j with rfl|rfl|rfl
   ·exact w.2
   ·exact A.2
   ·exact z.2
 |[],_,_,_,g,_=>by simp only[df];exact⟨by simp,λh=>⟨h,by simp⟩,rfl⟩
 |[_],_,_,_,g,_=>by simp only[df];exact⟨by simp,λh=>⟨h,by simp⟩,rfl⟩
 |[_,_],_,_,_,g,_=>by simp only[df];exact⟨by simp,λh=>⟨h,by simp⟩,rfl⟩
 |_::_::_::_::_,_,_,_,g,_=>by simp only[df];exact⟨by simp,λh=>⟨h,by simp⟩,rfl⟩
end
inductive RV where
 |n (k:Int)
 |p (a b:RV) (h:Nat)
structure RO where
 uj:Int
 cells:Nat
 ended:Bool
structure RS where
 steps:Nat
 cells:Nat
 e:Nat
 ops:List RO
 opn:List Nat
 ky:List Nat
 dq:List Int
variable {N:RS}
abbrev kz:=List (List UInt8×RV)
def qG:kz->List UInt8->RV
 |[],_=>.n 0
 |x::r,s=>if x.1=s then x.2 else qG r s
def RV.num:RV->Int
 |.n k=>k
 |.p _ _ _=>0
def RV.fst:RV->RV
 |.p a _ _=>a
 |.n _=>.n 0
def RV.snd:RV->RV
 |.p _ b _=>b
 |.n _=>.n 0
def RV.has:RV->Ty->Prop
 |.n k,.n=>0<=k/\k<=9999
 |.p a b _,.p _ x y=>a.has x/\b.has y
 |_,_=>False
def RS.J2(a:RS)(b:Int)(i:Nat):Bool:=(a.ops[i]?).map (·.uj)==some b
def RS.sW(a:RS)(b:Int):Option Nat:=match a.opn.reverse.find? (a.J2 b) with
 |some i=>some i
 |none=>a.ky.find? (a.J2 b)
def RS.gm(a:RS)(b:Int):Nat×RS:=match a.sW b with
 |some i=>(i,a)
 |none=>(a.ops.length,{a with ops:=a.ops++[⟨b,0,false⟩],ky:=a.ky++[a.ops.length]})
def RS.one(a:RS)(i:Nat):RS:={a with ops:=a.ops.modify i (λo=>{o with cells:=o.cells+1}),cells:=a.cells+1,dq:=a.dq++[1]}
def tS(c:Int)(a b:RV)(d:RS):RV×RS:=(.p a b (d.gm c).1,(d.gm c).2.one (d.gm c).1)
def RS.used(a:RS)(v:RV):RS:=match v with
 |.n _=>a
 |.p _ _ h=>if a.e=0/\(a.ops[h]?).map (·.ended)=some true then {a with e:=13} else a
def RS.opened(a:RS)(b:Int):RS:={a with ops:=a.ops++[⟨b,0,false⟩],opn:=a.opn++[a.ops.length]}
def RS.shut(a:RS)(i:Nat):RS:={a with opn:=a.opn.dropLast,ops:=a.ops.modify i (λo=>{o with ended:=true}),dq:=a.dq++[-((((a.ops[i]?).map (·.cells)).getD 0:Nat):Int)]}
def jg(b:Nat)(a:RS)(f:RS->RV×RS):RV×RS:=
 if a.e≠0 then (.n 0,a) else if a.steps=b then (.n 0,{a with e:=12}) else f {a with steps:=a.steps+1}
def eZ(f:RV->RS->RV×RS):Nat->RV->RS->RV×RS
 |0,v,a=>(v,a)
 |k+1,v,a=>if a.e≠0 then (v,a) else eZ f k (f v a).1 (f v a).2
def oH(k:Kw)(a b:Int):Int:=
 if k=.add then Int.tmod (a+b) 10000 else if k=.sub then Int.tmod (a+10000-b) 10000 else if a<b then 1 else 0
mutual
def rW(d:Nat):PT->kz->RS->RV×RS
 |.num _ s,_,g=>jg d g (λg=>(.n (aQ s),g))
 |.name _ s,f,g=>jg d g (λg=>(qG f s,g))
 |.node _ k j i h,f,g=>
  if k=.new then (if g.e≠0 then (.n 0,g) else tX d (aQ i) h f g)
  else jg d g (λg=>
   if k=.dV then xU d j h f g
   else if k=.lv then Hd d h f g
   else if k=.loop then pZ d j h f g
   else mI d k (aQ i) h f g)
def tX(d:Nat)(i:Int):List PT->kz->RS->RV×RS
 |[a],f,g=>((rW d a f (g.opened i)).1,(rW d a f (g.opened i)).2.shut g.ops.length)
 |_,_,g=>(.n 0,g)
def xU(d:Nat)(j:List UInt8):List PT->kz->RS->RV×RS
 |[a,b],f,g=>rW d b ((j,(rW d a f g).1)::f) (rW d a f g).2
 |_,_,g=>(.n 0,g)
def Hd(d:Nat):List PT->kz->RS->RV×RS
 |[a,b,c],f,g=>if (rW d a f g).1.num≠0 then rW d b f (rW d a f g).2 else rW d c f (rW d a f g).2
 |_,_,g=>(.n 0,g)
def pZ(d:Nat)(j:List UInt8):List PT->kz->RS->RV×RS
 |[a,b,c],f,g=>eZ (λv g=>rW d c ((j,v)::f) g) (rW d a f g).1.num.toNat (rW d b f (rW d a f g).2).1 (rW d b f (rW d a f g).2).2
 |_,_,g=>(.n 0,g)
def mI(d:Nat)(k:Kw)(i:Int):List PT->kz->RS->RV×RS
 |[a],f,g=>
  if ((rW d a f g).2.used (rW d a f g).1).e≠0 then (.n 0,(rW d a f g).2.used (rW d a f g).1)
  else (if k=.fst then (rW d a f g).1.fst else (rW d a f g).1.snd,(rW d a f g).2.used (rW d a f g).1)
 |[a,b],f,g=>
  if (rW d b f (rW d a f g).2).2.e≠0 then (.n 0,(rW d b f (rW d a f g).2).2)
  else if k=.pair then tS i (rW d a f g).1 (rW d b f (rW d a f g).2).1 (rW d b f (rW d a f g).2).2
  else (.n (oH k (rW d a f g).1.num (rW d b f (rW d a f g).2).1.num),(rW d b f (rW d a f g).2).2)
 |_,_,g=>(.n 0,g)
end
structure eK(st st':RS): Prop where
 opn:st'.opn=st.opn
 ops:st.ops.length<=st'.ops.length
theorem eK.refl(a):eK a a:=⟨rfl,bS⟩
theorem eK.trans{b c}(h:eK N b)(d:eK b c):eK N c:=⟨d.opn.trans h.opn,bw h.ops d.ops⟩
theorem sX{f}(h:∀a,eK a (f a).2):eK N (jg v N f).2:=by
 unfold jg;split
 ·exact eK.refl _
 ·split
  ·exact⟨rfl,bS⟩
  ·have:=h {N with steps:=N.steps+1};exact⟨this.opn,this.ops⟩
theorem xV{f}(h:∀v a,eK a (f v a).2):∀(k:Nat)(v:RV)(a:RS),eK a (eZ f k v a).2
 |0,_,a=>eK.refl _
 |k+1,v,a=>by
  unfold eZ;split
  ·exact eK.refl _
  ·exact (h v a).trans (xV h k _ _)
theorem Kj(a)(v):eK a (a.used v):=by
 unfold RS.used;split
 ·exact eK.refl _
 ·split
  ·exact⟨rfl,bS⟩
  ·exact eK.refl _
theorem He(a)(b:Int):eK a (a.gm b).2:=by
 unfold RS.gm;split
 ·exact eK.refl _
 ·exact⟨rfl,by simp⟩
theorem Hf(d:Int)(a b)(c):eK c (tS d a b c).2:=by
 have:=He c d;refine this.trans ⟨rfl,?_⟩;simp[tS,RS.one]
mutual
theorem iM(d:Nat):∀(t:PT)(f:kz)(g:RS),eK g (rW d t f g).2
 |.num _ s,f,g=>by unfold rW;exact sX (λj=>eK.refl _)
 |.name _ s,f,g=>by unfold rW;exact sX (λj=>eK.refl _)
 |.node _ k m n i,f,g=>by
  unfold rW;split
  ·split
   ·exact eK.refl _
   ·exact Kk d _ i f g
  ·refine sX (λj=>?_);split
   ·exact Kl d m i f j
   ·split
    ·exact Oe d i f j
    ·split
     ·exact Hg d m i f j
     ·exact Km d k _ i f j
theorem Kk(d:Nat)(n:Int):∀(l:List PT)(f:kz)(g:RS),eK g (tX d n l f g).2
 |[a],f,g=>by
  simp only[tX];have h:=iM d a f (g.opened n);refine⟨?_,?_⟩
  ·simp only[RS.shut];rw[h.opn];simp[RS.opened]
  ·simp only[RS.shut,List.length_modify];have:=h.ops;have e:(g.opened n).ops.length=g.ops.length+1:=by simp[RS.opened]
   omega
 |[],_,g=>by simp only[tX];exact eK.refl _
 |_::_::_,_,g=>by simp only[tX];exact eK.refl _
theorem Kl(d:Nat)(m):∀(l:List PT)(f:kz)(g:RS),eK g (xU d m l f g).2
 |[a,b],f,g=>by simp only[xU];exact (iM d a f g).trans (iM d b _ _)
 |[],_,g=>by simp only[xU];exact eK.refl _
 |[_],_,g=>by simp only[xU];exact eK.refl _
 |_::_::_::_,_,g=>by simp only[xU];exact eK.refl _
theorem Oe(d:Nat):∀(l:List PT)(f:kz)(g:RS),eK g (Hd d l f g).2
 |[a,b,c],f,g=>by
  simp only[Hd];split
  ·exact (iM d a f g).trans (iM d b _ _)
  ·exact (iM d a f g).trans (iM d c _ _)
 |[],_,g=>by simp only[Hd];exact eK.refl _
 |[_],_,g=>by simp only[Hd];exact eK.refl _
 |[_,_],_,g=>by simp only[Hd];exact eK.refl _
 |_::_::_::_::_,_,g=>by simp only[Hd];exact eK.refl _
theorem Hg(d:Nat)(m):∀(l:List PT)(f:kz)(g:RS),eK g (pZ d m l f g).2
 |[a,b,c],f,g=>by
  simp only[pZ];exact ((iM d a f g).trans (iM d b _ _)).trans (xV (λv g=>iM d c _ g) _ _ _)
 |[],_,g=>by simp only[pZ];exact eK.refl _
 |[_],_,g=>by simp only[pZ];exact eK.refl _
 |[_,_],_,g=>by simp only[pZ];exact eK.refl _
 |_::_::_::_::_,_,g=>by simp only[pZ];exact eK.refl _
theorem Km(d:Nat)(k)(n:Int):∀(l:List PT)(f:kz)(g:RS),eK g (mI d k n l f g).2
 |[a],f,g=>by
  simp only[mI];have h:=(iM d a f g).trans (Kj _ (rW d a f g).1);split<;>exact h
 |[a,b],f,g=>by
  simp only[mI];have h:=(iM d a f g).trans (iM d b f (rW d a f g).2);split
  ·exact h
  ·split
   ·exact h.trans (Hf _ _ _ _)
   ·exact h
 |[],_,g=>by simp only[mI];exact eK.refl _
 |_::_::_::_,_,g=>by simp only[mI];exact eK.refl _
end
