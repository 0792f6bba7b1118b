import Derived.Test.YtpicaknklgccoabGreatDoorProg
import Derived.WalkKit
import Derived.WalkSpells
import Derived.WalkLawsBesides
import Derived.Lib.Strings
import Derived.Lib.IndexBytes
import Derived.Deep.RegionWith
set_option maxHeartbeats 2000000
set_option maxRecDepth 100000
namespace Go.Proofs.YtpicaknklgccoabGreatDoor
def ll (lo hi:Int) (c:UInt8):Bool:=decide (lo<=(c.toNat:Int)) && decide ((c.toNat:Int)<=hi)
def run (lo hi:Int):List UInt8->Nat
 | []=>0
 | c::r=>if ll lo hi c then run lo hi r+1 else 0
theorem sr (lo hi:Int) (l:List UInt8):run lo hi l<=l.length:=by
 induction l with
 | nil=>simp[run]
 | cons c r ih=>simp only[run];split <;> simp <;> omega
def cL (l:List UInt8) (most:Nat):Bool:=decide (0<l.length) && decide (l.length<=most) && (decide (l.length=1) || (l.head? != some 48))
def ak (l:List UInt8):Int:=l.foldl (λn c=>if c=35 then n else 10*n+(c.toNat:Int)-48) 0
theorem vT (l:List UInt8) (c:UInt8):ak (l++[c])=if c=35 then ak l else 10*ak l+(c.toNat:Int)-48:=by
 unfold ak;rw[List.foldl_append];rfl
theorem QP (l:List UInt8):∀ (j:Nat) (a:Int),-(30*10 ^ j-30)<=a->a<=30*10 ^ j-30 ->
  -(30*10 ^ (j+l.length)-30)<=l.foldl (λn c=>if c=35 then n else 10*n+(c.toNat:Int)-48) a/\l.foldl (λn c=>if c=35 then n else 10*n+(c.toNat:Int)-48) a<=30*10 ^ (j+l.length)-30:=by
 induction l with
 | nil=>intro j a h1 h2;exact⟨h1,h2⟩
 | cons c r ih =>
  intro j a h1 h2;have hp:0<(10:Int) ^ j:=Int.pow_pos (by omega);have hc:c.toNat<256:=c.toNat_lt
  have e:(10:Int) ^ (j+1)=10*10 ^ j:=by rw[Int.pow_succ];omega
  have:=ih (j+1) (if c=35 then a else 10*a+(c.toNat:Int)-48) (by rw[e];split <;> omega) (by rw[e];split <;> omega);rw[List.length_cons,show j+(r.length+1)=j+1+r.length from by omega];exact this
theorem Ky (l:List UInt8):-(30*10 ^ l.length-30)<=ak l/\ak l<=30*10 ^ l.length-30:=by
 have:=QP l 0 0 (by decide) (by decide)
 simpa [ak] using this
inductive Kw | aP | pair | fst | snd | di | add | sub | less | loop | new
 deriving DecidableEq,Repr
def Kw.bytes:Kw->List UInt8
 | .aP=>[108,101,116]
 | .pair=>[112,97,105,114]
 | .fst=>[102,115,116]
 | .snd=>[115,110,100]
 | .di=>[105,102]
 | .add=>[97,100,100]
 | .sub=>[115,117,98]
 | .less=>[108,101,115,115]
 | .loop=>[108,111,111,112]
 | .new=>[110,101,119]
def wB (l:List UInt8):Option Kw :=
 if l=Kw.aP.bytes then some .aP else if l=Kw.pair.bytes then some .pair else if l=Kw.fst.bytes then some .fst else
 if l=Kw.snd.bytes then some .snd else if l=Kw.di.bytes then some .di else if l=Kw.add.bytes then some .add else
 if l=Kw.sub.bytes then some .sub else if l=Kw.less.bytes then some .less else if l=Kw.loop.bytes then some .loop else
 if l=Kw.new.bytes then some .new else none
theorem uV {l:List UInt8} {k:Kw} (h:wB l=some k):l=k.bytes:=by
 unfold wB at h
 repeat' (split at h;· simp only[Option.some.injEq] at h;subst h;assumption)
 simp at h
theorem xx (k:Kw):wB k.bytes=some k:=by cases k <;> decide
inductive Cl | opn | cls | Ak | num | GH | bad | kw (k:Kw)
 deriving DecidableEq,Repr
def Cl.bytes:Cl->List UInt8
 | .opn=>[40]
 | .cls=>[41]
 | .Ak=>[78,65,77,69]
 | .num=>[78,85,77,66,69,82]
 | .GH=>[82,69,71,73,79,78]
 | .bad=>[66,65,68]
 | .kw k=>k.bytes
def eQ (l:List UInt8) (n:Nat):Cl:=match wB l with
 | some k=>.kw k
 | none=>if n<=8 then .Ak else .bad
def aN (l:List UInt8):Nat × Cl :=
 if 0<run 97 122 l then
  (run 97 122 l,eQ (l.take (run 97 122 l)) (run 97 122 l))
 else if 0<run 48 57 l then
  (run 48 57 l,if cL (l.take (run 48 57 l)) 4 then .num else .bad)
 else match l with
  | []=>(1,.bad)
  | c::r =>
   if c=35 then (run 48 57 r+1,if cL (r.take (run 48 57 r)) 3 then .GH else .bad)
   else (1,if c=40 then .opn else if c=41 then .cls else .bad)
theorem mE (l:List UInt8):0<(aN l).1:=by
 unfold aN
 split
 ·assumption
 ·split
  ·assumption
  ·split
   ·simp
   ·split <;> simp
theorem su (l:List UInt8) (h:l≠[]):(aN l).1<=l.length:=by
 unfold aN
 split
 ·exact sr _ _ _
 ·split
  ·exact sr _ _ _
  ·split
   ·exact absurd rfl h
   ·rename_i c r _ _
    split
    ·have:=sr 48 57 r;simp;omega
    ·simp
structure Tk where
 s:List UInt8
 at_:Nat
 c:Cl
 deriving Repr
def eS (c:UInt8):Bool:=c==32 || c==10
def toks:Nat->Nat->List UInt8->List Tk
 | 0,_,_=>[]
 | _+1,_,[]=>[]
 | f+1,p,c::r =>
  if eS c then toks f (p+1) r
  else ⟨(c::r).take (aN (c::r)).1,p,(aN (c::r)).2⟩::toks f (p+(aN (c::r)).1) ((c::r).drop (aN (c::r)).1)
theorem A1:∀ (f g p:Nat) (l:List UInt8),l.length<=f->l.length<=g->toks f p l=toks g p l:=by
 intro f
 induction f with
 | zero=>intro g p l h1 h2;have:l=[]:=List.length_eq_zero_iff.1 (by omega);subst this;cases g <;> rfl
 | succ f ih =>
  intro g p l h1 h2
  cases l with
  | nil=>cases g <;> rfl
  | cons c r =>
   cases g with
   | zero=>simp at h2
   | succ g =>
    simp only[List.length_cons] at h1 h2;simp only[toks];have hp:=mE (c::r)
    split
    ·exact ih g _ r (by omega) (by omega)
    ·rw[ih g _ _ (by simp;omega) (by simp;omega)]
def tokens (l:List UInt8):List Tk:=toks l.length 0 l
theorem xy (f p:Nat) (c:UInt8) (r:List UInt8) (h:eS c=true):toks (f+1) p (c::r)=toks f (p+1) r:=by simp[toks,h]
theorem DB (f p:Nat) (c:UInt8) (r:List UInt8) (h:eS c=false):toks (f+1) p (c::r)=⟨(c::r).take (aN (c::r)).1,p,(aN (c::r)).2⟩::toks f (p+(aN (c::r)).1) ((c::r).drop (aN (c::r)).1):=by simp[toks,h]
def I6 (c:Nat->Nat) (x y:Nat):Nat->Nat:=λi=>if c i=max (c x) (c y) then min (c x) (c y) else c i
inductive MO (G:Nat->Nat->Prop):Nat->Nat->Prop
 | base {x y:Nat} (h:G x y):MO G x y
 | refl (x:Nat):MO G x x
 | symm {x y:Nat} (h:MO G x y):MO G y x
 | trans {x y z:Nat} (h:MO G x y) (g:MO G y z):MO G x z
structure Shr (G:Nat->Nat->Prop) (c:Nat->Nat):Prop where
 le:∀ i,c i<=i
 snd:∀ i,MO G i (c i)
theorem Shr.I6 {G:Nat->Nat->Prop} {c:Nat->Nat} (h:Shr G c) {x y:Nat} (hxy:MO G x y):Shr G (I6 c x y):=by
 have hc:MO G (c x) (c y):=((h.snd x).symm.trans hxy).trans (h.snd y)
 have hm:MO G (max (c x) (c y)) (min (c x) (c y)):=by
  by_cases e:c x<=c y
  ·rw[Nat.max_eq_right e,Nat.min_eq_left e];exact hc.symm
  ·have e':c y<=c x:=by omega
   rw[Nat.max_eq_left e',Nat.min_eq_right e'];exact hc
 refine⟨λi=>?_,λi=>?_⟩
 ·have:=h.le i
  unfold Go.Proofs.YtpicaknklgccoabGreatDoor.I6
  split <;> omega
 ·unfold Go.Proofs.YtpicaknklgccoabGreatDoor.I6
  split
  ·rename_i e
   exact (h.snd i).trans (by rw[e];exact hm)
  ·exact h.snd i
theorem MP (c:Nat->Nat) (x y:Nat):I6 c x y x=I6 c x y y:=by
 unfold I6
 by_cases e:c x<=c y
 ·rw[Nat.max_eq_right e,Nat.min_eq_left e]
  by_cases e2:c x=c y
  ·rw[if_pos e2,if_pos rfl]
  ·rw[if_neg e2,if_pos rfl]
 ·have e':c y<=c x:=by omega
  rw[Nat.max_eq_left e',Nat.min_eq_right e',if_pos rfl,if_neg (by omega)]
theorem Kz (c:Nat->Nat) (x y:Nat) {i j:Nat} (h:c i=c j):I6 c x y i=I6 c x y j:=by unfold I6;rw[h]
def pH (E:List Nat):Nat->Nat->Nat
 | 0,p=>p
 | f+1,p=>match E[p]? with
  | some x=>if x<p then pH E f x else p
  | none=>p
def aX (E:List Nat) (p:Nat):Nat:=pH E (p+1) p
theorem A2 (E:List Nat):∀ f p,pH E f p<=p
 | 0,p=>Nat.le_refl p
 | f+1,p=>by
  simp only[pH]
  split
  ·split
   ·have:=A2 E f;rename_i x _ h;have:=this x;omega
   ·exact Nat.le_refl p
  ·exact Nat.le_refl p
theorem vU (E:List Nat):∀ f g p,p<f->p<g->pH E f p=pH E g p
 | 0,_,_,h,_=>by omega
 | _+1,0,_,_,h=>by omega
 | f+1,g+1,p,h1,h2=>by
  simp only[pH]
  split
  ·split
   ·rename_i x _ h;exact vU E f g x (by omega) (by omega)
   ·rfl
  ·rfl
theorem gZ (E:List Nat) (p:Nat):aX E p=match E[p]? with
  | some x=>if x<p then aX E x else p
  | none=>p:=by
 unfold aX
 conv=>lhs;unfold pH
 split
 ·split
  ·rename_i x _ h;exact vU E p (x+1) x h (by omega)
  ·rfl
 ·rfl
theorem B6 (E:List Nat) (p:Nat):aX E p<=p:=A2 E _ p
theorem I7 (E:List Nat):∀ p,∀ x,E[aX E p]?=some x->aX E p<=x:=by
 intro p
 induction p using Nat.strongRecOn with
 | _ p ih =>
  intro x hx;rw[gZ] at hx ⊢
  cases h:E[p]? with
  | none=>rw[h] at hx;simp only at hx;rw[h] at hx;cases hx
  | some y =>
   rw[h] at hx;simp only at hx ⊢
   by_cases hy:y<p
   ·rw[if_pos hy] at hx ⊢;exact ih y hy x hx
   ·rw[if_neg hy] at hx ⊢;rw[h] at hx;cases hx;omega
theorem I8 (E:List Nat) (a b:Nat) (hab:a<b) (hb:b<E.length) (ha:aX E a=a) (tD:aX E b=b):∀ p,aX (E.set b a) p=if aX E p=b then a else aX E p:=by
 intro p
 induction p using Nat.strongRecOn with
 | _ p ih =>
  rw[gZ (E.set b a) p]
  by_cases hp:p=b
  ·subst hp
   rw[List.getElem?_set_self hb];simp only;rw[if_pos hab,ih a hab,ha,tD,if_neg (by omega),if_pos rfl]
  ·rw[List.getElem?_set_ne (λe=>hp e.symm),gZ E p]
   cases h:E[p]? with
   | none=>simp only;rw[if_neg hp]
   | some y =>
    simp only
    by_cases hy:y<p
    ·rw[if_pos hy,if_pos hy];exact ih y hy
    ·rw[if_neg hy,if_neg hy,if_neg hp]
def je (E:List Nat) (x y:Nat):List Nat:=if aX E x<aX E y then E.set (aX E y) (aX E x) else E.set (aX E x) (aX E y)
theorem nu (E:List Nat) (p:Nat):aX E (aX E p)=aX E p:=by
 rw[gZ E (aX E p)]
 cases h:E[aX E p]? with
 | none=>rfl
 | some x=>simp only;rw[if_neg (by have:=I7 E p x h;omega)]
theorem nA (E:List Nat) (x y:Nat) (hx:x<E.length) (hy:y<E.length) (p:Nat):aX (je E x y) p=I6 (aX E) x y p:=by
 have hxl:=B6 E x;have nV:=B6 E y;unfold je I6
 by_cases h:aX E x<aX E y
 ·rw[if_pos h,I8 E _ _ h (by omega) (nu E x) (nu E y),Nat.max_eq_right (by omega),Nat.min_eq_left (by omega)]
 ·rw[if_neg h]
  by_cases e:aX E x=aX E y
  ·rw[<- e,Nat.max_self,Nat.min_self]
   have hs:∀ q,aX (E.set (aX E x) (aX E x)) q=aX E q:=by
    intro q
    induction q using Nat.strongRecOn with
    | _ q ih =>
     rw[gZ (E.set _ _) q,gZ E q]
     by_cases hq:q=aX E x
     ·rw[hq,List.getElem?_set_self (by omega)]
      simp only;rw[if_neg (by omega)]
      cases h2:E[aX E x]? with
      | none=>rfl
      | some z=>simp only;rw[if_neg (by have:=I7 E x z h2;omega)]
     ·rw[List.getElem?_set_ne (λe=>hq e.symm)]
      cases h2:E[q]? with
      | none=>rfl
      | some z =>
       simp only
       by_cases hz:z<q
       ·rw[if_pos hz,if_pos hz];exact ih z hz
       ·rw[if_neg hz,if_neg hz]
   rw[hs]
   split
   ·rename_i e2;exact e2
   ·rfl
  ·rw[I8 E _ _ (by omega) (by omega) (nu E y) (nu E x),Nat.max_eq_left (by omega),Nat.min_eq_right (by omega)]
open Go.RowKit
theorem drop_cons (s:ByteArray) (k:Nat) (h:k<s.size):s.data.toList.drop k=s[k]::s.data.toList.drop (k+1):=by
 rw[List.drop_eq_getElem_cons (by simpa using h)];rfl
theorem tI (s:ByteArray) (k:Nat) (h:s.size<=k):s.data.toList.drop k=[]:=by
 rw[List.drop_eq_nil_iff];simpa using h
theorem mF {k:IntKind} {a b:Int} (h:a=b):Ending.returned (.int k a)=.returned (.int k b):=by rw[h]
theorem qH (a b:UInt8):((a.toNat:Int)==(b.toNat:Int))=(a==b):=by
 rw[Bool.eq_iff_iff];simp only[beq_iff_eq]
 constructor
 ·intro h;apply UInt8.toNat_inj.1;omega
 ·intro h;rw[h]
theorem pI {a b:Bool} (h:a=b):Ending.returned (.bool a)=.returned (.bool b):=by rw[h]
theorem aa8 (k:Nat) (h:k<=5):(10:Int) ^ k<=100000:=by
 match k,h with
 | 0,_=>decide
 | 1,_=>decide
 | 2,_=>decide
 | 3,_=>decide
 | 4,_=>decide
 | 5,_=>decide
def bs (l:List UInt8):ByteArray:=⟨l.toArray⟩
theorem Tr {s:ByteArray} {l:List UInt8} (h:s.data.toList=l):s=bs l:=by subst h;cases s;rfl
theorem UT (s:ByteArray) (a n:Nat):(s.extract a (a+n)).data.toList=(s.data.toList.drop a).take n:=by
 rw[Lib.extract_data,show a+n-a=n from by omega]
theorem ez (s:ByteArray):s.data.toList.length=s.size:=by simp
theorem wC (s:ByteArray) (k:Nat) (hk:k<s.size) (h:eS s[k]=true):toks (s.size-k) k (s.data.toList.drop k)=toks (s.size-(k+1)) (k+1) (s.data.toList.drop (k+1)):=by
 rw[drop_cons s k hk,show s.size-k=(s.size-(k+1))+1 from by omega,xy _ _ _ _ h]
def kU (s:ByteArray) (k:Nat):Tk:=⟨(s.data.toList.drop k).take (aN (s.data.toList.drop k)).1,k,(aN (s.data.toList.drop k)).2⟩
theorem Aw (s:ByteArray) (k:Nat) (hk:k<s.size) (h:eS s[k]=false) :
  toks (s.size-k) k (s.data.toList.drop k)=kU s k::toks (s.size-(k+(aN (s.data.toList.drop k)).1)) (k+(aN (s.data.toList.drop k)).1) (s.data.toList.drop (k+(aN (s.data.toList.drop k)).1)):=by
 have hp:=mE (s.data.toList.drop k)
 have e:toks (s.size-k) k (s.data.toList.drop k)=kU s k::toks (s.size-(k+1)) (k+(aN (s.data.toList.drop k)).1) ((s.data.toList.drop k).drop (aN (s.data.toList.drop k)).1):=by
  unfold kU;rw[drop_cons s k hk]
  conv=>lhs;rw[show s.size-k=(s.size-(k+1))+1 from by omega]
  rw[DB _ _ _ _ h]
 rw[e,List.drop_drop]
 congr 1
 apply A1
 ·simp;omega
 ·simp
theorem xz {w w':World} (h:Below w.heap.size w w') (row:Option Nat):w.grownBy w' row:=⟨h.os,h.tape,h.output,h.size,λk hk _=>h.block k hk⟩
theorem aB {w w':World} {base:Nat} {e:TypeId} {size:Nat} {v:Value} {n:Nat} {xs:List Value} (h:w.ownsRow base e size v n xs) (hb:Below w.heap.size w w'):w'.ownsRow base e size v n xs:=by
 refine h.kept (xz hb none) ?_
 cases v.ownBlock <;> simp
theorem bE (l:List UInt8):(bs l).size=l.length:=by show l.toArray.size=l.length;simp
theorem DC (s:ByteArray) (k:Nat) (hk:k<s.size):(kU s k).s.length=(aN (s.data.toList.drop k)).1:=by
 have:=su (s.data.toList.drop k) (by rw[drop_cons s k hk];simp);unfold kU;simp only[List.length_take];omega
inductive Wt | e | word | close | name | region
 deriving DecidableEq,Repr
def Wt.bytes:Wt->List UInt8
 | .e=>[101]
 | .word=>[119,111,114,100]
 | .close=>[41]
 | .name=>[78,65,77,69]
 | .region=>[82,69,71,73,79,78]
def bP (k:Kw) (ae:Bool):List Wt :=
 match k,ae with
 | .aP,_=>[.name,.e,.e,.close]
 | .loop,_=>[.e,.name,.e,.e,.close]
 | .pair,true=>[.region,.e,.e,.close]
 | .new,true=>[.region,.e,.close]
 | .pair,false=>[.e,.e,.close]
 | .add,_=>[.e,.e,.close]
 | .sub,_=>[.e,.e,.close]
 | .less,_=>[.e,.e,.close]
 | .fst,_=>[.e,.close]
 | .snd,_=>[.e,.close]
 | .di,_=>[.e,.e,.e,.close]
 | .new,false=>[]
def uW (c:Cl) (ae:Bool):List Wt:=match c with
 | .kw k=>bP k ae
 | _=>[]
def bX (ae:Bool) (len:Nat):List Tk->List Wt->Option Nat
 | [],[]=>none
 | [],_::_=>some len
 | t::_,[]=>some t.at_
 | t::ts,.e::p=>match t.c with
  | .opn=>bX ae len ts (.word::p)
  | .num=>bX ae len ts p
  | .Ak=>bX ae len ts p
  | _=>some t.at_
 | t::ts,.word::p=>if uW t.c ae=[] then some t.at_ else bX ae len ts (uW t.c ae++p)
 | t::ts,.close::p=>if t.c=.cls then bX ae len ts p else some t.at_
 | t::ts,.name::p=>if t.c=.Ak then bX ae len ts p else some t.at_
 | t::ts,.region::p=>if t.c=.GH then bX ae len ts p else some t.at_
theorem DD:∀ (f p:Nat) (l:List UInt8),(toks f p l).length<=l.length:=by
 intro f
 induction f with
 | zero=>intro p l;simp[toks]
 | succ f ih =>
  intro p l
  cases l with
  | nil=>simp[toks]
  | cons c r =>
   simp only[toks]
   split
   ·have:=ih (p+1) r;simp;omega
   ·have hp:=mE (c::r)
    have:=ih (p+(aN (c::r)).1) ((c::r).drop (aN (c::r)).1);simp only[List.length_drop,List.length_cons] at this;simp only[List.length_cons];omega
theorem MQ (l m:List UInt8):((bs l).toList==m)=(l==m):=by rw[Lib.toList_data];rfl
theorem bV (w:World) (l:List Value) (e:TypeId) (j:Nat):(w.alloc (.cells l.toArray e)).cell? (Addr.add ⟨w.heap.size,0,none⟩ j)=l[j]?:=by
 rcases j with _ | j <;> simp[Addr.add]
inductive PT where
 | num (p:Nat) (s:List UInt8)
 | name (p:Nat) (s:List UInt8)
 | node (p:Nat) (k:Kw) (nm rg:List UInt8) (kids:List PT)
mutual
def PT.cnt:PT->Nat
 | .num _ _=>1
 | .name _ _=>1
 | .node _ _ _ _ kids=>1+ax kids
def ax:List PT->Nat
 | []=>0
 | t::r=>t.cnt+ax r
end
mutual
def PT.bz:PT->Nat
 | .num _ _=>0
 | .name _ _=>0
 | .node _ k _ _ kids=>(if k=.pair then 1 else 0)+ic kids
def ic:List PT->Nat
 | []=>0
 | t::r=>t.bz+ic r
end
mutual
inductive PE (ae:Bool):List Tk->PT->List Tk->Prop
 | num {t:Tk} {r:List Tk}:t.c=.num->PE ae (t::r) (.num t.at_ t.s) r
 | name {t:Tk} {r:List Tk}:t.c=.Ak->PE ae (t::r) (.name t.at_ t.s) r
 | node {t u:Tk} {k:Kw} {r r':List Tk} {nm rg:List UInt8} {kids:List PT}:t.c=.opn->u.c=.kw k->bP k ae≠[] ->
   PW ae (bP k ae) r nm rg kids r'->PE ae (t::u::r) (.node t.at_ k nm rg kids) r'
inductive PW (ae:Bool):List Wt->List Tk->List UInt8->List UInt8->List PT->List Tk->Prop
 | nil {r:List Tk}:PW ae [] r [] [] [] r
 | close {t:Tk} {ws:List Wt} {r r':List Tk} {nm rg:List UInt8} {kids:List PT}:t.c=.cls->PW ae ws r nm rg kids r'->PW ae (.close::ws) (t::r) nm rg kids r'
 | name {t:Tk} {ws:List Wt} {r r':List Tk} {nm rg:List UInt8} {kids:List PT}:t.c=.Ak->PW ae ws r nm rg kids r'->PW ae (.name::ws) (t::r) t.s rg kids r'
 | region {t:Tk} {ws:List Wt} {r r':List Tk} {nm rg:List UInt8} {kids:List PT}:t.c=.GH->PW ae ws r nm rg kids r'->PW ae (.region::ws) (t::r) nm t.s kids r'
 | e {e:PT} {ws:List Wt} {l r r':List Tk} {nm rg:List UInt8} {kids:List PT}:PE ae l e r->PW ae ws r nm rg kids r'->PW ae (.e::ws) l nm rg (e::kids) r'
end
mutual
theorem PE.sound {ae:Bool} {len:Nat}:∀ {l:List Tk} {e:PT} {r:List Tk},PE ae l e r->∀ p,bX ae len l (.e::p)=bX ae len r p
 | _,_,_,.num h,p=>by simp[bX,h]
 | _,_,_,.name h,p=>by simp[bX,h]
 | _,_,_,.node (k:=k) h1 h2 h3 h4,p=>by
  have:=PW.sound (len:=len) h4 p;simp only[bX,h1,h2,uW];rw[if_neg h3];exact this
theorem PW.sound {ae:Bool} {len:Nat}:∀ {ws:List Wt} {l:List Tk} {nm rg:List UInt8} {kids:List PT} {r:List Tk},PW ae ws l nm rg kids r->∀ p,bX ae len l (ws++p)=bX ae len r p
 | _,_,_,_,_,_,.nil,p=>rfl
 | _,_,_,_,_,_,.close h h1,p=>by have:=PW.sound (len:=len) h1 p;simp only[List.cons_append,bX,if_pos h];exact this
 | _,_,_,_,_,_,.name h h1,p=>by have:=PW.sound (len:=len) h1 p;simp only[List.cons_append,bX,if_pos h];exact this
 | _,_,_,_,_,_,.region h h1,p=>by have:=PW.sound (len:=len) h1 p;simp only[List.cons_append,bX,if_pos h];exact this
 | _,_,_,_,_,_,.e (ws:=ws) h h1,p=>by have:=PE.sound (len:=len) h (ws++p);rw[List.cons_append,this];exact PW.sound h1 p
end
mutual
theorem PE.len {ae:Bool}:∀ {l:List Tk} {e:PT} {r:List Tk},PE ae l e r->r.length<l.length
 | _,_,_,.num _=>by simp
 | _,_,_,.name _=>by simp
 | _,_,_,.node _ _ _ h4=>by have:=PW.len h4;simp;omega
theorem PW.len {ae:Bool}:∀ {ws:List Wt} {l:List Tk} {nm rg:List UInt8} {kids:List PT} {r:List Tk},PW ae ws l nm rg kids r->r.length<=l.length
 | _,_,_,_,_,_,.nil=>Nat.le_refl _
 | _,_,_,_,_,_,.close _ h1=>by have:=PW.len h1;simp;omega
 | _,_,_,_,_,_,.name _ h1=>by have:=PW.len h1;simp;omega
 | _,_,_,_,_,_,.region _ h1=>by have:=PW.len h1;simp;omega
 | _,_,_,_,_,_,.e h h1=>by have:=PE.len h;have:=PW.len h1;omega
end
def MS (l:List Wt):Nat:=(l.filter (·=.e)).length
mutual
theorem PE.used {ae:Bool}:∀ {l:List Tk} {e:PT} {r:List Tk},PE ae l e r->e.cnt+r.length<=l.length/\e.bz+r.length+1<=l.length
 | _,_,_,.num _=>by simp[PT.cnt,PT.bz];omega
 | _,_,_,.name _=>by simp[PT.cnt,PT.bz];omega
 | _,_,_,.node (k:=k) _ _ _ h4=>by have:=PW.used h4;simp[PT.cnt,PT.bz];split <;> omega
theorem PW.used {ae:Bool}:∀ {ws:List Wt} {l:List Tk} {nm rg:List UInt8} {kids:List PT} {r:List Tk},PW ae ws l nm rg kids r->ax kids+r.length<=l.length/\ic kids+r.length<=l.length
 | _,_,_,_,_,_,.nil=>by simp[ax,ic]
 | _,_,_,_,_,_,.close _ h1=>by have:=PW.used h1;simp;omega
 | _,_,_,_,_,_,.name _ h1=>by have:=PW.used h1;simp;omega
 | _,_,_,_,_,_,.region _ h1=>by have:=PW.used h1;simp;omega
 | _,_,_,_,_,_,.e h h1=>by have:=PE.used h;have:=PW.used h1;simp only[ax,ic];omega
end
theorem PE.suffix {ae:Bool} {l:List Tk} {e:PT} {r:List Tk} (h:PE ae l e r):∃ t r',l=t::r'/\(t.c=.num\/t.c=.Ak\/t.c=.opn):=by
 cases h with
 | num h=>exact⟨_,_,rfl,Or.inl h⟩
 | name h=>exact⟨_,_,rfl,Or.inr (Or.inl h)⟩
 | node h _ _ _=>exact⟨_,_,rfl,Or.inr (Or.inr h)⟩
structure TN where
 kind:Nat
 at_:Nat
 aL:Nat
 word:List UInt8
 num:Int
def bR:Cl->Nat
 | .bad=>1
 | .opn=>2
 | .cls=>3
 | .Ak=>4
 | .num=>5
 | .GH=>6
 | .kw .aP=>7
 | .kw .pair=>8
 | .kw .fst=>9
 | .kw .snd=>10
 | .kw .di=>11
 | .kw .add=>12
 | .kw .sub=>13
 | .kw .less=>14
 | .kw .loop=>15
 | .kw .new=>16
def vV (t:Tk):List UInt8:=match t.c with
 | .Ak=>t.s
 | .kw _=>t.s
 | _=>[]
def DE (t:Tk):Int:=match t.c with
 | .num=>ak t.s
 | .GH=>ak t.s
 | _=>0
def iF (t:Tk):TN:=⟨bR t.c,t.at_,t.at_+t.s.length,vV t,DE t⟩
def gK (s:List UInt8) (p:Nat):List Tk:=toks (s.length-p) p (s.drop p)
def fE (len:Nat) (l:List Tk):TN:=match l with
 | []=>⟨0,len,len,[],0⟩
 | t::_=>iF t
structure NR where
 form:Nat
 at_:Nat
 aL:Nat
 num:Int
 word:List UInt8
 region:Int
 source:Int
 p0:Int
 p1:Int
 p2:Int
structure PS where
 l:List Tk
 fl:Option Nat
 scope:List (List UInt8 × Int)
 nodes:List NR
 opened:List Int
def PS.fail (at_:Nat) (st:PS):PS:=match st.fl with
 | some _=>st
 | none=>{ st with fl:=some at_,l:=[] }
def PS.tail (st:PS):PS:={ st with l:=st.l.tail }
def PS.expect (len kind:Nat) (st:PS):PS:=if (fE len st.l).kind≠kind then st.tail.fail (fE len st.l).at_ else st.tail
def PS.add (n:NR) (st:PS):PS:={ st with nodes:=st.nodes++[n] }
def cE (scope:List (List UInt8 × Int)) (w:List UInt8):Int:=match scope.reverse.find? (λx=>x.1==w) with
 | some x=>x.2
 | none=>-1
def dw:Nat->Nat
 | 7=>3
 | 8=>4
 | 9=>5
 | 10=>6
 | 11=>7
 | 12=>8
 | 13=>9
 | 14=>10
 | 15=>11
 | 16=>12
 | _=>0
def fF (pE:PS->Int × PS) (word:List UInt8) (src:Int) (st:PS):Int × PS :=
 let x:=pE { st with scope:=st.scope++[(word,src)] }
 (x.1,{ x.2 with scope:=x.2.scope.dropLast })
def QQ (len:Nat) (pE:PS->Int × PS) (n:NR) (st:PS):NR × PS :=
 let nm:=fE len st.l
 let x:=pE (st.expect len 4)
 let y:=fF pE nm.word x.1 x.2
 ({ n with word:=nm.word,p0:=x.1,p1:=y.1,p2:=-1 },y.2)
def I9 (len:Nat) (pE:PS->Int × PS) (n:NR) (st:PS):NR × PS :=
 let t:=pE st
 let nm:=fE len t.2.l
 let x:=pE (t.2.expect len 4)
 let y:=fF pE nm.word x.1 x.2
 ({ n with word:=nm.word,p0:=t.1,p1:=x.1,p2:=y.1 },y.2)
def kV (len:Nat) (n:NR) (st:PS):NR × PS:=({ n with region:=(fE len st.l).num },st.expect len 6)
def xA (pE:PS->Int × PS) (n:NR) (st:PS):NR × PS :=
 let x:=pE st
 ({ n with p0:=x.1 },x.2)
def vW (pE:PS->Int × PS) (n:NR) (st:PS):NR × PS :=
 let x:=xA pE n st
 let y:=pE x.2
 ({ x.1 with p1:=y.1 },y.2)
def DF (pE:PS->Int × PS) (n:NR) (st:PS):NR × PS :=
 let x:=vW pE n st
 let y:=pE x.2
 ({ x.1 with p2:=y.1 },y.2)
def pJ (ae:Bool) (len:Nat) (pE:PS->Int × PS) (n:NR) (st:PS):NR × PS :=
 if n.form=3 then QQ len pE n st
 else if n.form=11 then I9 len pE n st
 else if n.form=4 then (if ae then vW pE (kV len n st).1 (kV len n st).2 else vW pE n st)
 else if n.form=12 then xA pE (kV len n st).1 (kV len n st).2
 else if n.form=5\/n.form=6 then xA pE n st
 else if n.form=7 then DF pE n st
 else vW pE n st
def ig (ae:Bool) (len:Nat) (pE:PS->Int × PS) (n:NR) (st:PS):Int × PS :=
 let w:=fE len st.l
 let f:=dw w.kind
 if f=0\/(f=12/\ae=false) then (-1,st.tail.fail w.at_)
 else
  let x:=pJ ae len pE { n with form:=f } st.tail
  let e:=fE len x.2.l
  (((x.2.expect len 3).nodes.length:Int),(x.2.expect len 3).add { x.1 with aL:=e.aL })
def jM (t:TN):NR:=⟨0,t.at_,t.aL,0,[],0,-1,-1,-1,-1⟩
def jf (len:Nat) (pB:NR->PS->Int × PS) (st:PS):Int × PS :=
 let t:=fE len st.l
 if t.kind=5 then ((st.nodes.length:Int),st.tail.add { jM t with form:=1,num:=t.num })
 else if t.kind=4 then ((st.nodes.length:Int),st.tail.add { jM t with form:=2,word:=t.word,source:=cE st.scope t.word })
 else if t.kind=2 then pB (jM t) st.tail
 else (-1,st.tail.fail t.at_)
def jg (f:PS->Int × PS) (st:PS):Int × PS :=
 let x:=f { st with opened:=st.opened++[-1] }
 (x.1,{ x.2 with opened:=x.2.opened.set st.opened.length x.1 })
def fG (ae:Bool) (len:Nat):Nat->PS->Int × PS
 | 0=>jg (jf len λ_ st=>(-1,st))
 | m+1=>jg (jf len (ig ae len (fG ae len m)))
theorem KA (c:Cl):bR c=5↔c=.num:=by
 cases c with
 | kw k=>cases k <;> decide
 | _=>decide
theorem nB (c:Cl):bR c=4↔c=.Ak:=by
 cases c with
 | kw k=>cases k <;> decide
 | _=>decide
theorem KC (c:Cl):bR c=2↔c=.opn:=by
 cases c with
 | kw k=>cases k <;> decide
 | _=>decide
theorem uX (c:Cl):bR c=3↔c=.cls:=by
 cases c with
 | kw k=>cases k <;> decide
 | _=>decide
theorem qI (c:Cl):bR c=6↔c=.GH:=by
 cases c with
 | kw k=>cases k <;> decide
 | _=>decide
def PS.stuck (q:Nat) (st:PS):Prop:=st.fl=some q/\st.l=[]
theorem xB {q a:Nat} {st:PS} (h:st.stuck q):(st.fail a).stuck q:=by
 obtain⟨h1,h2⟩:=h;unfold PS.fail;rw[h1];exact⟨h1,h2⟩
theorem sw {q:Nat} {st:PS} (h:st.stuck q):st.tail.stuck q:=⟨h.1,by simp[PS.tail,h.2]⟩
theorem eB {q len k:Nat} {st:PS} (h:st.stuck q):(st.expect len k).stuck q:=by
 unfold PS.expect;split
 ·exact xB (sw h)
 ·exact sw h
theorem lI {a:Nat} {st:PS} (h:st.fl=none):(st.fail a).stuck a:=by
 unfold PS.fail;rw[h];exact⟨rfl,rfl⟩
def xC (pE:PS->Int × PS):Prop:=∀ (q:Nat) (st:PS),st.stuck q->(pE st).2.stuck q
theorem A3 (len:Nat) (pB:NR->PS->Int × PS):xC (jf len pB):=by
 intro q st h;unfold jf;simp only[h.2,fE];exact xB (sw h)
theorem xD {f:PS->Int × PS} (hf:xC f):xC (jg f):=by
 intro q st h;exact hf q { st with opened:=st.opened++[-1] } h
theorem GI (ae:Bool) (len n:Nat):xC (fG ae len n):=by
 cases n with
 | zero=>exact xD (A3 _ _)
 | succ m=>exact xD (A3 _ _)
theorem GJ {pE:PS->Int × PS} (h:xC pE) (w:List UInt8) (src:Int) {q:Nat} {st:PS} (hs:st.stuck q):(fF pE w src st).2.stuck q:=h q { st with scope:=st.scope++[(w,src)] } hs
theorem pK (st:PS):st.tail.l.length<=st.l.length:=by simp[PS.tail]
def bA (s:ByteArray) (a:Nat):UInt8:=if h:a<s.size then s[a] else 0
theorem xE (s:ByteArray) (a:Nat) (h:a<s.size):bA s a=s[a]:=by unfold bA;rw[dif_pos h]
theorem MT (s:ByteArray) (a:Nat) (h:s.size<=a):bA s a=0:=by unfold bA;rw[dif_neg (by omega)]
theorem lJ (s:ByteArray) (a:Nat) (w:World) (ha:a<=10000) :
  Calls Tryz.prog 136 #[.string s,.int .i64 a] w λe w'=>e=.returned (.int .u8 ((bA s a).toNat:Int))/\w'=w:=by
 by_cases h:a<s.size
 ·rw[xE s a h]
  go_enter Tryz.func136,Tryz.ntmps136
  go_wp2
  go_ret
  exact⟨rfl,rfl⟩
 ·rw[MT s a (by omega)]
  go_enter Tryz.func136,Tryz.ntmps136
  go_wp2
  go_ret
  exact⟨rfl,rfl⟩
theorem tJ (c:UInt8) (w:World) :
  Calls Tryz.prog 137 #[.int .u8 (c.toNat:Int)] w λe w'=>e=.returned (.bool (ll 97 122 c))/\w'=w:=by
 have hc:c.toNat<256:=c.toNat_lt;unfold ll
 go_enter Tryz.func137,Tryz.ntmps137
 go_wp2
 all_goals go_ret
 ·refine⟨pI ?_,rfl⟩
  have h1:(97:Int)<=(c.toNat:Int):=by assumption
  simp[h1]
 ·refine⟨pI ?_,rfl⟩
  have h1:¬ (97:Int)<=(c.toNat:Int):=by omega
  simp[h1]
theorem vX (c:UInt8) (w:World) :
  Calls Tryz.prog 139 #[.int .u8 (c.toNat:Int)] w λe w'=>e=.returned (.bool (ll 48 57 c))/\w'=w:=by
 have hc:c.toNat<256:=c.toNat_lt;unfold ll
 go_enter Tryz.func139,Tryz.ntmps139
 go_wp2
 all_goals go_ret
 ·refine⟨pI ?_,rfl⟩
  have h1:(48:Int)<=(c.toNat:Int):=by assumption
  simp[h1]
 ·refine⟨pI ?_,rfl⟩
  have h1:¬ (48:Int)<=(c.toNat:Int):=by omega
  simp[h1]
theorem vY (c:UInt8) (w:World) :
  Calls Tryz.prog 145 #[.int .u8 (c.toNat:Int)] w λe w'=>e=.returned (.bool (eS c))/\w'=w:=by
 have e1:((c.toNat:Int)==32)=(c==32):=qH c 32;have e2:((c.toNat:Int)==10)=(c==10):=qH c 10;unfold eS;rw[<- e1,<- e2];clear e1 e2
 go_enter Tryz.func145,Tryz.ntmps145
 go_wp2
 all_goals go_ret
 all_goals
  refine⟨pI ?_,rfl⟩
  simp_all
def wD:List UInt8->Nat
 | []=>0
 | c::r=>if eS c then wD r+1 else 0
theorem MU (l:List UInt8):wD l<=l.length:=by
 induction l with
 | nil=>simp[wD]
 | cons c r ih=>simp only[wD];split <;> simp <;> omega
theorem xF (s:ByteArray) (a:Nat) (w:World) (hs:s.size<=9000) (ha:a<=s.size) :
  Calls Tryz.prog 135 #[.string s,.int .i64 a] w λe w'=>e=.returned (.int .i64 ((a+wD (s.data.toList.drop a):Nat):Int))/\w'=w:=by
 have hby:=λk (h:k<=10000) w=>lJ s k w h
 go_enter Tryz.func135,Tryz.ntmps135
 go_wp2
 go_loop [5] (λi=>∃ k:Nat,k<=s.size/\i=.int .i64 k/\a+wD (s.data.toList.drop a)=k+wD (s.data.toList.drop k)) (λi=>s.size-(intOf i).toNat)
 case atStart=>exact⟨a,ha,rfl,rfl⟩
 case round =>
  obtain⟨k,hk,rfl,hr⟩:=hrel;have HR:Hid _:=hr;clear hr
  by_cases hlt:k<s.size
  ·by_cases hb:eS s[k]=true
   ·have hn:wD (s.data.toList.drop k)=wD (s.data.toList.drop (k+1))+1:=by rw[drop_cons s k hlt];simp[wD,hb]
    have HN:Hid _:=hn
    have hbl:=λw=>vY s[k] w
    rw[hb] at hbl;have hbk:=hby k (by omega);rw[xE s k hlt] at hbk;clear hn hb
    go_wp2_with (first
     | (go_at_call 136;refine (hbk _).mono ?_;rintro e w' ⟨rfl,rfl⟩)
     | (go_at_call 145;refine (hbl _).mono ?_;rintro e w' ⟨rfl,rfl⟩))
    go_round
    case rel=>exact⟨k+1,by omega,by go_num,by rw[HR.out,HN.out];omega⟩
    case measure=>simp[intOf];omega
   ·have hb0:eS s[k]=false:=by simpa using hb
    have hn:wD (s.data.toList.drop k)=0:=by rw[drop_cons s k hlt];simp[wD,hb0]
    have HN:Hid _:=hn
    have hbl:=λw=>vY s[k] w
    rw[hb0] at hbl;have hbk:=hby k (by omega);rw[xE s k hlt] at hbk;clear hn hb hb0
    go_wp2_with (first
     | (go_at_call 136;refine (hbk _).mono ?_;rintro e w' ⟨rfl,rfl⟩)
     | (go_at_call 145;refine (hbl _).mono ?_;rintro e w' ⟨rfl,rfl⟩))
    go_ret
    exact⟨mF (by have h1:=HR.out;have h2:=HN.out;omega),rfl⟩
  ·have hn:wD (s.data.toList.drop k)=0:=by rw[tI s k (by omega)];rfl
   have HN:Hid _:=hn;clear hn
   go_wp2
   go_ret
   exact⟨mF (by have h1:=HR.out;have h2:=HN.out;omega),rfl⟩
theorem DH (s:ByteArray) (a n b:Nat) (w:World) (hs:s.size<=9000) (hab:b=a+n) (ha:b<=s.size) (hn:n<=5) (hd:∀ c∈(s.data.toList.drop a).take n,c≠35) :
  Calls Tryz.prog 148 #[.string s,.int .i64 a,.int .i64 b] w λe w'=>e=.returned (.int .i64 (ak ((s.data.toList.drop a).take n)))/\w'=w:=by
 have hby:=λk (h:k<=10000) w=>lJ s k w h
 have HD:Hid _:=hd;clear hd
 go_enter Tryz.func148,Tryz.ntmps148
 go_wp2
 go_loop [7,8] (λv i=>∃ k j:Nat,k<=n/\j=a+k/\i=.int .i64 j/\v=.int .i64 (ak ((s.data.toList.drop a).take k))) (λ_ i=>b-(intOf i).toNat)
 case atStart=>exact⟨0,a,by omega,rfl,rfl,rfl⟩
 case round =>
  obtain⟨k,j,hk,hj,rfl,rfl⟩:=hrel;have hb:=Ky ((s.data.toList.drop a).take k);have hp:=aa8 ((s.data.toList.drop a).take k).length (by simp;omega);obtain⟨m,hm⟩:∃ m,m=ak ((s.data.toList.drop a).take k):=⟨_,rfl⟩;rw[<- hm] at hb
  obtain⟨hb1,hb2⟩:-3000000<=m/\m<=3000000:=by omega
  clear hp hb
  by_cases hlt:k<n
  ·have hin:j<s.size:=by omega
   have iV:ak ((s.data.toList.drop a).take (k+1))=10*m+(s[j].toNat:Int)-48:=by
    have e:(s.data.toList.drop a).take (k+1)=(s.data.toList.drop a).take k++[s[j]]:=by
     subst hj;rw[List.take_succ_eq_append_getElem (by simp;omega),List.getElem_drop];rfl
    have hne:s[j]≠35:=by
     apply HD.out
     have:s[j]∈(s.data.toList.drop a).take (k+1):=by rw[e];simp
     rw[show (s.data.toList.drop a).take (k+1)=((s.data.toList.drop a).take n).take (k+1) from by rw[List.take_take,Nat.min_eq_left (by omega)]] at this;exact List.mem_of_mem_take this
    rw[e,vT,if_neg hne,hm]
   have HS:Hid _:=iV;have Al:s[j].toNat<256:=s[j].toNat_lt;have HC:Hid _:=Al;have hbk:=hby j (by omega);rw[xE s j hin] at hbk;clear iV Al;rw[<- hm];have HM:Hid _:=hm;clear hm;have HJ:Hid (j=a+k):=hj
   have hjb:j<b:=by omega
   have Mr:Hid (b=a+n):=hab;clear hj hab
   go_wp2_with fail
   refine (hbk _).mono ?_;rintro e w' ⟨rfl,rfl⟩
   go_wp2
   go_round
   case rel =>
    have:=HJ.out;refine⟨k+1,j+1,by omega,by omega,by go_num,?_⟩;rw[HS.out];have:=HC.out;rw[IntWalk.wrap64_in (s[j].toNat:Int) (by omega),IntWalk.wrap64_in (m*10+(s[j].toNat:Int)) (by omega),IntWalk.wrap64_in _ (by omega),Int.mul_comm m 10]
   case measure=>simp[intOf];omega
  ·have hkn:k=n:=by omega
   subst hkn
   go_wp2
   go_ret
   exact⟨rfl,rfl⟩
theorem QR (s:ByteArray) (a b:Nat) (w:World) (ha:a<=b) (hb:b<=s.size) :
  Calls Tryz.prog 146 #[.string s,.int .i64 a,.int .i64 b] w λe w'=>e=.returned (.string (s.extract a b))/\w'=w:=by
 go_enter Tryz.func146,Tryz.ntmps146
 go_wp2
 go_ret
 exact⟨rfl,rfl⟩
theorem mP (s:ByteArray) (k:Kw):(s.toList==k.bytes)=decide (wB s.data.toList=some k):=by
 rw[Lib.toList_data]
 by_cases h:wB s.data.toList=some k
 ·rw[decide_eq_true h,uV h];simp
 ·rw[decide_eq_false h,beq_eq_false_iff_ne]
  intro e;rw[e,xx] at h;exact h rfl
theorem GK (s:ByteArray) (w:World) :
  Calls Tryz.prog 147 #[.string s] w λe w'=>e=.returned (.int .i64 ((bR (eQ s.data.toList 0):Nat):Int))/\w'=w:=by
 have f1:=mP s .aP;have f2:=mP s .pair;have f3:=mP s .fst;have f4:=mP s .snd;have f5:=mP s .di;have f6:=mP s .add;have f7:=mP s .sub;have f8:=mP s .less;have f9:=mP s .loop;have f10:=mP s .new;simp only[Kw.bytes] at f1 f2 f3 f4 f5 f6 f7 f8 f9 f10;unfold eQ
 cases hk:wB s.data.toList with
 | none =>
  rw[hk] at f1 f2 f3 f4 f5 f6 f7 f8 f9 f10;simp only[reduceCtorEq,decide_false] at f1 f2 f3 f4 f5 f6 f7 f8 f9 f10;clear hk
  go_enter Tryz.func147,Tryz.ntmps147
  go_wp2
  go_ret
  exact⟨rfl,rfl⟩
 | some k =>
  rw[hk] at f1 f2 f3 f4 f5 f6 f7 f8 f9 f10;clear hk
  cases k
  all_goals
   simp only[Option.some.injEq,reduceCtorEq,decide_false,decide_true] at f1 f2 f3 f4 f5 f6 f7 f8 f9 f10
   go_enter Tryz.func147,Tryz.ntmps147
   go_wp2
   go_ret
   exact⟨rfl,rfl⟩
def jh (t:TN):Value:=.agg #[.int .i64 t.kind,.int .i64 t.at_,.int .i64 t.aL,.string (bs t.word),.int .i64 t.num]
theorem MW (s:ByteArray) (k:Nat) (lo hi:Int) (hlo:0<lo):(ll lo hi (bA s k)=true/\k<s.size/\run lo hi (s.data.toList.drop k)=run lo hi (s.data.toList.drop (k+1))+1)\/(ll lo hi (bA s k)=false/\run lo hi (s.data.toList.drop k)=0):=by
 by_cases h:k<s.size
 ·rw[xE s k h,drop_cons s k h]
  cases hb:ll lo hi s[k] with
  | true=>left;exact⟨rfl,h,by simp[run,hb]⟩
  | false=>right;exact⟨rfl,by simp[run,hb]⟩
 ·right
  rw[MT s k (by omega),tI s k (by omega)];refine⟨?_,rfl⟩;unfold ll;have h0:((0:UInt8).toNat:Int)=0:=rfl;rw[h0,decide_eq_false (by omega:¬ lo<=0)];rfl
theorem Ca (l:List UInt8) (n:Nat) (h:n<=8):eQ l n=eQ l 0:=by
 unfold eQ;cases wB l <;> simp[h]
theorem xG (l:List UInt8) (h:8<l.length):eQ l l.length=.bad:=by
 unfold eQ
 cases hk:wB l with
 | none=>simp;omega
 | some k =>
  have:=uV hk;rw[this] at h;clear this hk
  revert h
  cases k <;> simp[Kw.bytes]
theorem Cb (s:ByteArray) (a n:Nat) (w:World) (hs:s.size<=9000) (hn:n=run 97 122 (s.data.toList.drop a)) (ha:a+n<=s.size) :
  Calls Tryz.prog 138 #[.string s,.int .i64 a] w λe w'=>e=.returned (jh ⟨bR (eQ ((s.data.toList.drop a).take n) n),a,a+n,if n<=8 then (s.data.toList.drop a).take n else [],0⟩)/\Below w.heap.size w w':=by
 have hby:=λk (h:k<=10000) w=>lJ s k w h
 have HN:Hid _:=hn;clear hn
 go_enter Tryz.func138,Tryz.ntmps138
 go_wp2
 go_loop [5] (λi=>∃ k j:Nat,k<=n/\Hid (j=a+k)/\j<=s.size/\i=.int .i64 j/\Hid (n=k+run 97 122 (s.data.toList.drop j))) (λi=>s.size-(intOf i).toNat)
 case atStart=>exact⟨0,a,by omega,(rfl:a=a+0),by omega,rfl,(by rw[<- HN.out];omega:n=0+run 97 122 (s.data.toList.drop a))⟩
 case round =>
  obtain⟨k,j,hk,HJ,hjs,rfl,HR⟩:=hrel;have hbk:=hby j (by omega)
  have mG:=λw=>tJ (bA s j) w
  rcases MW s j 97 122 (by decide) with ⟨h1,h2,h3⟩ | ⟨h1,h2⟩
  ·rw[h1] at mG
   have H3:Hid _:=h3;clear h1 h3
   go_wp2_with (first
    | (go_at_call 136;refine (hbk _).mono ?_;rintro e w' ⟨rfl,rfl⟩)
    | (go_at_call 137;refine (mG _).mono ?_;rintro e w' ⟨rfl,rfl⟩))
   go_round
   case rel=>exact⟨k+1,j+1,by have h:=HR.out;rw[H3.out] at h;omega,(by have h:=HJ.out;omega:j+1=a+(k+1)),by omega,by go_num,(by have h:=HR.out;rw[H3.out] at h;omega:n=(k+1)+run 97 122 (s.data.toList.drop (j+1)))⟩
   case measure=>simp[intOf];omega
  ·rw[h1] at mG
   have hkn:k=n:=by have h:=HR.out;rw[h2] at h;omega
   have Xz:j=a+n:=by rw[<- hkn];exact HJ.out
   clear h1 h2 HR
   have hcu:=λw=>QR s a j w (by omega) hjs
   have hkd:=λw=>GK (s.extract a j) w
   have hex:(s.extract a j).data.toList=(s.data.toList.drop a).take n:=by rw[Xz,UT]
   rw[hex] at hkd;have DI:Hid _:=Tr hex;have QS:Hid (j=a+n):=Xz
   have hjk:(j:Int)-(a:Int)=(n:Int):=by omega
   clear hex Xz hkn HJ hk
   by_cases h8:n<=8
   ·have H8:Hid (n<=8):=h8
    go_wp2_with (first
     | (go_at_call 136;refine (hbk _).mono ?_;rintro e w' ⟨rfl,rfl⟩)
     | (go_at_call 137;refine (mG _).mono ?_;rintro e w' ⟨rfl,rfl⟩)
     | (go_at_call 146;refine (hcu _).mono ?_;rintro e w' ⟨rfl,rfl⟩)
     | (go_at_call 147;refine (hkd _).mono ?_;rintro e w' ⟨rfl,rfl⟩))
    refine bodyPost_ret (v:=.agg #[.int .i64 ((bR (eQ ((s.data.toList.drop a).take n) 0):Nat):Int),.int .i64 a,.int .i64 j,.string (s.extract a j),.int .i64 0]) (by simp[results,Tryz.results138,go_sem]) rfl ⟨?_,(Below.refl _ _).alloc (Nat.le_refl _) _⟩
    rw[DI.out,QS.out,Ca _ _ H8.out];first | rfl | (rw[if_pos H8.out];rfl)
   ·have H8:Hid (¬ n<=8):=h8
    have hlen:((s.data.toList.drop a).take n).length=n:=by simp;omega
    have HB:Hid (eQ ((s.data.toList.drop a).take n) n=.bad):=by
     have:=xG ((s.data.toList.drop a).take n) (by omega);rw[hlen] at this;exact this
    clear hlen
    go_wp2_with (first
     | (go_at_call 136;refine (hbk _).mono ?_;rintro e w' ⟨rfl,rfl⟩)
     | (go_at_call 137;refine (mG _).mono ?_;rintro e w' ⟨rfl,rfl⟩))
    refine bodyPost_ret (v:=.agg #[.int .i64 1,.int .i64 a,.int .i64 j,.string ⟨#[]⟩,.int .i64 0]) (by simp[results,Tryz.results138,go_sem]) rfl ⟨?_,(Below.refl _ _).alloc (Nat.le_refl _) _⟩
    rw[HB.out,QS.out];first | rfl | (rw[if_neg H8.out];rfl)
theorem QT (lo hi:Int) (l:List UInt8):∀ c∈l.take (run lo hi l),ll lo hi c=true:=by
 induction l with
 | nil=>simp
 | cons c r ih =>
  simp only[run]
  by_cases h:ll lo hi c=true
  ·rw[if_pos h,List.take_succ_cons]
   intro x hx
   rcases List.mem_cons.1 hx with rfl | hx
   ·exact h
   ·exact ih x hx
  ·rw[if_neg h];simp
def lK (l:List UInt8) (most kind a d n:Nat):TN:=if cL (l.take n) most then ⟨kind,a,d+n,[],ak (l.take n)⟩ else ⟨1,a,d+n,[],0⟩
theorem pL (s:ByteArray) (a d n most kind:Nat) (w:World) (hs:s.size<=9000) (hn:n=run 48 57 (s.data.toList.drop d)) (ha:d+n<=s.size) (hm:3<=most/\most<=4) :
  Calls Tryz.prog 140 #[.string s,.int .i64 a,.int .i64 d,.int .i64 most,.int .i64 kind] w λe w'=>e=.returned (jh (lK (s.data.toList.drop d) most kind a d n))/\Below w.heap.size w w':=by
 have hby:=λk (h:k<=10000) w=>lJ s k w h
 have Yg:∀ c∈(s.data.toList.drop d).take n,c≠35:=by
  rw[hn];intro c hc e;have:=QT 48 57 _ c hc;rw[e] at this;revert this;decide
 have aa9:Hid _:=Yg;have HN:Hid _:=hn
 have hlen:((s.data.toList.drop d).take n).length=n:=by simp;omega
 have hhead:0<n->((s.data.toList.drop d).take n).head?=some (bA s d):=by
  intro h0;rw[xE s d (by omega),drop_cons s d (by omega)];obtain⟨m,rfl⟩:∃ m,n=m+1:=⟨n-1,by omega⟩;simp
 have rG:cL ((s.data.toList.drop d).take n) most=(decide (0<n) && decide (n<=most) && (decide (n=1) || (((s.data.toList.drop d).take n).head? != some 48))):=by unfold cL;rw[hlen]
 have Ax:Hid _:=rG;have Yh:Hid _:=hhead;clear hn Yg hlen rG hhead
 go_enter Tryz.func140,Tryz.ntmps140
 go_wp2
 go_loop [11] (λi=>∃ k j:Nat,k<=n/\Hid (j=d+k)/\j<=s.size/\i=.int .i64 j/\Hid (n=k+run 48 57 (s.data.toList.drop j))) (λi=>s.size-(intOf i).toNat)
 case atStart=>exact⟨0,d,by omega,(rfl:d=d+0),by omega,rfl,(by rw[<- HN.out];omega:n=0+run 48 57 (s.data.toList.drop d))⟩
 case round =>
  obtain⟨k,j,hk,HJ,hjs,rfl,HR⟩:=hrel;have hbk:=hby j (by omega)
  have mG:=λw=>vX (bA s j) w
  rcases MW s j 48 57 (by decide) with ⟨h1,h2,h3⟩ | ⟨h1,h2⟩
  ·rw[h1] at mG
   have H3:Hid _:=h3;clear h1 h3
   go_wp2_with (first
    | (go_at_call 136;refine (hbk _).mono ?_;rintro e w' ⟨rfl,rfl⟩)
    | (go_at_call 139;refine (mG _).mono ?_;rintro e w' ⟨rfl,rfl⟩))
   go_round
   case rel=>exact⟨k+1,j+1,by have h:=HR.out;rw[H3.out] at h;omega,(by have h:=HJ.out;omega:j+1=d+(k+1)),by omega,by go_num,(by have h:=HR.out;rw[H3.out] at h;omega:n=(k+1)+run 48 57 (s.data.toList.drop (j+1)))⟩
   case measure=>simp[intOf];omega
  ·rw[h1] at mG
   have hkn:k=n:=by have h:=HR.out;rw[h2] at h;omega
   have Xz:j=d+n:=by rw[<- hkn];exact HJ.out
   clear h1 h2 HR;have QS:Hid (j=d+n):=Xz
   have hjk:(j:Int)-(d:Int)=(n:Int):=by omega
   have iW:=hby d (by omega);have e48:(((bA s d).toNat:Int)==48)=(bA s d==48):=qH (bA s d) 48;have Yi:Hid _:=e48;clear Xz hkn HJ hk e48
   by_cases c0:n=0
   ·have b0:((n:Int)==0)=true:=by rw[c0];rfl
    have HF:Hid (lK (s.data.toList.drop d) most kind a d n=⟨1,a,d+n,[],0⟩):=by
     have:cL ((s.data.toList.drop d).take n) most=false:=by rw[Ax.out];simp[c0]
     unfold lK;rw[this];rfl
    have c0':n<1:=by omega
    clear c0
    go_wp2_with (first
     | (go_at_call_of 136 (Value.int IntKind.i64 (j:Int));refine (hbk _).mono ?_;rintro e w' ⟨rfl,rfl⟩)
     | (go_at_call_of 136 (Value.int IntKind.i64 (d:Int));refine (iW _).mono ?_;rintro e w' ⟨rfl,rfl⟩)
     | (go_at_call 139;refine (mG _).mono ?_;rintro e w' ⟨rfl,rfl⟩)
     | (go_at_call 148;refine (UU _).mono ?_;rintro e w' ⟨rfl,rfl⟩))
    refine bodyPost_ret (v:=.agg #[.int .i64 1,.int .i64 a,.int .i64 j,.string ⟨#[]⟩,.int .i64 0]) (by simp[results,Tryz.results140,go_sem]) rfl ⟨?_,(Below.refl _ _).alloc (Nat.le_refl _) _⟩;rw[HF.out,QS.out];rfl
   ·have b0:((n:Int)==0)=false:=by rw[beq_eq_false_iff_ne];omega
    have c1:1<=n:=by omega
    have hh:=Yh.out (by omega)
    by_cases cm:n<=most
    ·have UU:=λw=>DH s d n j w hs QS.out hjs (by omega) aa9.out
     by_cases c2:n=1
     ·have HF:Hid (lK (s.data.toList.drop d) most kind a d n=⟨kind,a,d+n,[],ak ((s.data.toList.drop d).take n)⟩):=by
       have:cL ((s.data.toList.drop d).take n) most=true:=by rw[Ax.out];simp[c2];omega
       unfold lK;rw[this];rfl
      have XA:n<2:=by omega
      clear c2 hh c0
      go_wp2_with (first
       | (go_at_call_of 136 (Value.int IntKind.i64 (j:Int));refine (hbk _).mono ?_;rintro e w' ⟨rfl,rfl⟩)
       | (go_at_call_of 136 (Value.int IntKind.i64 (d:Int));refine (iW _).mono ?_;rintro e w' ⟨rfl,rfl⟩)
       | (go_at_call 139;refine (mG _).mono ?_;rintro e w' ⟨rfl,rfl⟩)
       | (go_at_call 148;refine (UU _).mono ?_;rintro e w' ⟨rfl,rfl⟩))
      refine bodyPost_ret (v:=.agg #[.int .i64 kind,.int .i64 a,.int .i64 j,.string ⟨#[]⟩,.int .i64 (ak ((s.data.toList.drop d).take n))]) (by simp[results,Tryz.results140,go_sem]) rfl ⟨?_,(Below.refl _ _).alloc (Nat.le_refl _) _⟩;rw[HF.out,QS.out];rfl
     ·cases e0:(bA s d==48) with
      | true =>
       have b48:(((bA s d).toNat:Int)==48)=true:=by rw[Yi.out];exact e0
       have HF:Hid (lK (s.data.toList.drop d) most kind a d n=⟨1,a,d+n,[],0⟩):=by
        have h48:bA s d=48:=by simpa using e0
        have:cL ((s.data.toList.drop d).take n) most=false:=by rw[Ax.out,hh,h48];simp[c2]
        unfold lK;rw[this];rfl
       have XA:1<n:=by omega
       clear c2 hh c0 e0
       go_wp2_with (first
        | (go_at_call_of 136 (Value.int IntKind.i64 (j:Int));refine (hbk _).mono ?_;rintro e w' ⟨rfl,rfl⟩)
        | (go_at_call_of 136 (Value.int IntKind.i64 (d:Int));refine (iW _).mono ?_;rintro e w' ⟨rfl,rfl⟩)
        | (go_at_call 139;refine (mG _).mono ?_;rintro e w' ⟨rfl,rfl⟩)
        | (go_at_call 148;refine (UU _).mono ?_;rintro e w' ⟨rfl,rfl⟩))
       refine bodyPost_ret (v:=.agg #[.int .i64 1,.int .i64 a,.int .i64 j,.string ⟨#[]⟩,.int .i64 0]) (by simp[results,Tryz.results140,go_sem]) rfl ⟨?_,(Below.refl _ _).alloc (Nat.le_refl _) _⟩;rw[HF.out,QS.out];rfl
      | false =>
       have b48:(((bA s d).toNat:Int)==48)=false:=by rw[Yi.out];exact e0
       have HF:Hid (lK (s.data.toList.drop d) most kind a d n=⟨kind,a,d+n,[],ak ((s.data.toList.drop d).take n)⟩):=by
        have h48:bA s d≠48:=by simpa using e0
        have:cL ((s.data.toList.drop d).take n) most=true:=by rw[Ax.out,hh];simp[h48,cm];omega
        unfold lK;rw[this];rfl
       have XA:1<n:=by omega
       clear c2 hh c0 e0
       go_wp2_with (first
        | (go_at_call_of 136 (Value.int IntKind.i64 (j:Int));refine (hbk _).mono ?_;rintro e w' ⟨rfl,rfl⟩)
        | (go_at_call_of 136 (Value.int IntKind.i64 (d:Int));refine (iW _).mono ?_;rintro e w' ⟨rfl,rfl⟩)
        | (go_at_call 139;refine (mG _).mono ?_;rintro e w' ⟨rfl,rfl⟩)
        | (go_at_call 148;refine (UU _).mono ?_;rintro e w' ⟨rfl,rfl⟩))
       refine bodyPost_ret (v:=.agg #[.int .i64 kind,.int .i64 a,.int .i64 j,.string ⟨#[]⟩,.int .i64 (ak ((s.data.toList.drop d).take n))]) (by simp[results,Tryz.results140,go_sem]) rfl ⟨?_,(Below.refl _ _).alloc (Nat.le_refl _) _⟩;rw[HF.out,QS.out];rfl
    ·have HF:Hid (lK (s.data.toList.drop d) most kind a d n=⟨1,a,d+n,[],0⟩):=by
      have:cL ((s.data.toList.drop d).take n) most=false:=by rw[Ax.out];simp[cm]
      unfold lK;rw[this];rfl
     have XA:1<n:=by omega
     clear hh c0
     go_wp2_with (first
      | (go_at_call_of 136 (Value.int IntKind.i64 (j:Int));refine (hbk _).mono ?_;rintro e w' ⟨rfl,rfl⟩)
      | (go_at_call_of 136 (Value.int IntKind.i64 (d:Int));refine (iW _).mono ?_;rintro e w' ⟨rfl,rfl⟩)
      | (go_at_call 139;refine (mG _).mono ?_;rintro e w' ⟨rfl,rfl⟩)
      | (go_at_call 148;refine (UU _).mono ?_;rintro e w' ⟨rfl,rfl⟩))
     refine bodyPost_ret (v:=.agg #[.int .i64 1,.int .i64 a,.int .i64 j,.string ⟨#[]⟩,.int .i64 0]) (by simp[results,Tryz.results140,go_sem]) rfl ⟨?_,(Below.refl _ _).alloc (Nat.le_refl _) _⟩;rw[HF.out,QS.out];rfl
end Go.Proofs.YtpicaknklgccoabGreatDoor
