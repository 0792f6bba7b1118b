import Derived.Test.YtpicaknklgccoabGreatDoorProg
import Derived.WalkKit
import Derived.WalkSpells
import Derived.WalkLawsBesides
import Derived.Lib.Strings
import Derived.Lib.IndexBytes
import Derived.Deep.RegionWith
set_option maxHeartbeats 2000000
set_option maxRecDepth 100000
namespace Go.Proofs.YtpicaknklgccoabGreatDoor
def jX (lo hi:Int) (c:UInt8):Bool:=decide (lo<=(c.toNat:Int)) && decide ((c.toNat:Int)<=hi)
def run (lo hi:Int):List UInt8->Nat
 | []=>0
 | c::r=>if jX lo hi c then run lo hi r+1 else 0
theorem qD (lo hi:Int) (l:List UInt8):run lo hi l<=l.length:=by
 induction l with
 | nil=>simp [run]
 | cons c r ih=>simp only [run];split <;> simp <;> omega
def cj (l:List UInt8) (most:Nat):Bool:=decide (0 < l.length) && decide (l.length<=most) && (decide (l.length=1) || (l.head? != some 48))
def aq (l:List UInt8):Int:=l.foldl (fun n c=>if c=35 then n else 10 * n+(c.toNat:Int) - 48) 0
theorem uu (l:List UInt8) (c:UInt8):aq (l++[c])=if c=35 then aq l else 10 * aq l+(c.toNat:Int) - 48:=by
 unfold aq;rw [List.foldl_append];rfl
theorem Pz (l:List UInt8):∀ (j:Nat) (a:Int),-(30 * 10 ^ j - 30)<=a->a<=30 * 10 ^ j - 30 ->
  -(30 * 10 ^ (j+l.length) - 30)<=l.foldl (fun n c=>if c=35 then n else 10 * n+(c.toNat:Int) - 48) a/\l.foldl (fun n c=>if c=35 then n else 10 * n+(c.toNat:Int) - 48) a<=30 * 10 ^ (j+l.length) - 30:=by
 induction l with
 | nil=>intro j a h1 h2;exact ⟨h1,h2⟩
 | cons c r ih =>
  intro j a h1 h2
  have hp:0 < (10:Int) ^ j:=Int.pow_pos (by omega)
  have hc:c.toNat < 256:=c.toNat_lt
  have e:(10:Int) ^ (j+1)=10 * 10 ^ j:=by rw [Int.pow_succ];omega
  have:=ih (j+1) (if c=35 then a else 10 * a+(c.toNat:Int) - 48) (by rw [e];split <;> omega) (by rw [e];split <;> omega)
  rw [List.length_cons,show j+(r.length+1)=j+1+r.length from by omega]
  exact this
theorem I5 (l:List UInt8):-(30 * 10 ^ l.length - 30)<=aq l/\aq l<=30 * 10 ^ l.length - 30:=by
 have:=Pz l 0 0 (by decide) (by decide)
 simpa [aq] using this
inductive Kw | aT | pair | fst | snd | dQ | add | sub | less | loop | new
 deriving DecidableEq,Repr
def Kw.bytes:Kw->List UInt8
 | .aT=>[108,101,116]
 | .pair=>[112,97,105,114]
 | .fst=>[102,115,116]
 | .snd=>[115,110,100]
 | .dQ=>[105,102]
 | .add=>[97,100,100]
 | .sub=>[115,117,98]
 | .less=>[108,101,115,115]
 | .loop=>[108,111,111,112]
 | .new=>[110,101,119]
def uU (l:List UInt8):Option Kw :=
 if l=Kw.aT.bytes then some .aT else if l=Kw.pair.bytes then some .pair else if l=Kw.fst.bytes then some .fst else
 if l=Kw.snd.bytes then some .snd else if l=Kw.dQ.bytes then some .dQ else if l=Kw.add.bytes then some .add else
 if l=Kw.sub.bytes then some .sub else if l=Kw.less.bytes then some .less else if l=Kw.loop.bytes then some .loop else
 if l=Kw.new.bytes then some .new else none
theorem tz {l:List UInt8} {k:Kw} (h:uU l=some k):l=k.bytes:=by
 unfold uU at h
 repeat' (split at h;· simp only [Option.some.injEq] at h;subst h;assumption)
 simp at h
theorem vV (k:Kw):uU k.bytes=some k:=by cases k <;> decide
inductive Cl | opn | cls | yX | num | GS | bad | kw (k:Kw)
 deriving DecidableEq,Repr
def ep (l:List UInt8) (n:Nat):Cl:=match uU l with
 | some k=>.kw k
 | none=>if n<=8 then .yX else .bad
def aK (l:List UInt8):Nat × Cl :=
 if 0 < run 97 122 l then
  (run 97 122 l,ep (l.take (run 97 122 l)) (run 97 122 l))
 else if 0 < run 48 57 l then
  (run 48 57 l,if cj (l.take (run 48 57 l)) 4 then .num else .bad)
 else match l with
  | []=>(1,.bad)
  | c::r =>
   if c=35 then (run 48 57 r+1,if cj (r.take (run 48 57 r)) 3 then .GS else .bad)
   else (1,if c=40 then .opn else if c=41 then .cls else .bad)
theorem lL (l:List UInt8):0 < (aK l).1:=by
 unfold aK
 split
 ·assumption
 ·split
  ·assumption
  ·split
   ·simp
   ·split <;> simp
theorem qE (l:List UInt8) (h:l≠[]):(aK l).1<=l.length:=by
 unfold aK
 split
 ·exact qD _ _ _
 ·split
  ·exact qD _ _ _
  ·split
   ·exact absurd rfl h
   ·rename_i c r _ _
    split
    ·have:=qD 48 57 r;simp;omega
    ·simp
structure Tk where
 s:List UInt8
 at_:Nat
 c:Cl
 deriving Repr
def eu (c:UInt8):Bool:=c == 32 || c == 10
def toks:Nat->Nat->List UInt8->List Tk
 | 0,_,_=>[]
 | _+1,_,[]=>[]
 | f+1,p,c::r =>
  if eu c then toks f (p+1) r
  else ⟨(c::r).take (aK (c::r)).1,p,(aK (c::r)).2⟩::toks f (p+(aK (c::r)).1) ((c::r).drop (aK (c::r)).1)
theorem zL:∀ (f g p:Nat) (l:List UInt8),l.length<=f->l.length<=g->toks f p l=toks g p l:=by
 intro f
 induction f with
 | zero=>intro g p l h1 h2;have:l=[]:=List.length_eq_zero_iff.1 (by omega);subst this;cases g <;> rfl
 | succ f ih =>
  intro g p l h1 h2
  cases l with
  | nil=>cases g <;> rfl
  | cons c r =>
   cases g with
   | zero=>simp at h2
   | succ g =>
    simp only [List.length_cons] at h1 h2
    simp only [toks]
    have hp:=lL (c::r)
    split
    ·exact ih g _ r (by omega) (by omega)
    ·rw [ih g _ _ (by simp;omega) (by simp;omega)]
def tokens (l:List UInt8):List Tk:=toks l.length 0 l
theorem vW (f p:Nat) (c:UInt8) (r:List UInt8) (h:eu c=true):toks (f+1) p (c::r)=toks f (p+1) r:=by simp [toks,h]
theorem Cq (f p:Nat) (c:UInt8) (r:List UInt8) (h:eu c=false):toks (f+1) p (c::r)=⟨(c::r).take (aK (c::r)).1,p,(aK (c::r)).2⟩::toks f (p+(aK (c::r)).1) ((c::r).drop (aK (c::r)).1):=by simp [toks,h]
def PA (c:Nat->Nat) (x y:Nat):Nat->Nat:=fun i=>if c i=max (c x) (c y) then min (c x) (c y) else c i
theorem Lh (c:Nat->Nat) (x y:Nat):PA c x y x=PA c x y y:=by
 unfold PA
 by_cases e:c x<=c y
 ·rw [Nat.max_eq_right e,Nat.min_eq_left e]
  by_cases e2:c x=c y
  ·rw [if_pos e2,if_pos rfl]
  ·rw [if_neg e2,if_pos rfl]
 ·have e':c y<=c x:=by omega
  rw [Nat.max_eq_left e',Nat.min_eq_right e',if_pos rfl,if_neg (by omega)]
theorem I6 (c:Nat->Nat) (x y:Nat) {i j:Nat} (h:c i=c j):PA c x y i=PA c x y j:=by unfold PA;rw [h]
def nT (E:List Nat):Nat->Nat->Nat
 | 0,p=>p
 | f+1,p=>match E[p]? with
  | some x=>if x < p then nT E f x else p
  | none=>p
def bu (E:List Nat) (p:Nat):Nat:=nT E (p+1) p
theorem zM (E:List Nat):∀ f p,nT E f p<=p
 | 0,p=>Nat.le_refl p
 | f+1,p=>by
  simp only [nT]
  split
  ·split
   ·have:=zM E f;rename_i x _ h;have:=this x;omega
   ·exact Nat.le_refl p
  ·exact Nat.le_refl p
theorem uw (E:List Nat):∀ f g p,p < f->p < g->nT E f p=nT E g p
 | 0,_,_,h,_=>by omega
 | _+1,0,_,_,h=>by omega
 | f+1,g+1,p,h1,h2=>by
  simp only [nT]
  split
  ·split
   ·rename_i x _ h;exact uw E f g x (by omega) (by omega)
   ·rfl
  ·rfl
theorem gE (E:List Nat) (p:Nat):bu E p=match E[p]? with
  | some x=>if x < p then bu E x else p
  | none=>p:=by
 unfold bu
 conv=>lhs;unfold nT
 split
 ·split
  ·rename_i x _ h;exact uw E p (x+1) x h (by omega)
  ·rfl
 ·rfl
theorem AW (E:List Nat) (p:Nat):bu E p<=p:=zM E _ p
theorem GU (E:List Nat):∀ p,∀ x,E[bu E p]?=some x->bu E p<=x:=by
 intro p
 induction p using Nat.strongRecOn with
 | _ p ih =>
  intro x hx
  rw [gE] at hx ⊢
  cases h:E[p]? with
  | none=>rw [h] at hx;simp only at hx;rw [h] at hx;cases hx
  | some y =>
   rw [h] at hx
   simp only at hx ⊢
   by_cases hy:y < p
   ·rw [if_pos hy] at hx ⊢;exact ih y hy x hx
   ·rw [if_neg hy] at hx ⊢;rw [h] at hx;cases hx;omega
theorem GV (E:List Nat) (a b:Nat) (hab:a < b) (hb:b < E.length) (ha:bu E a=a) (rR:bu E b=b):∀ p,bu (E.set b a) p=if bu E p=b then a else bu E p:=by
 intro p
 induction p using Nat.strongRecOn with
 | _ p ih =>
  rw [gE (E.set b a) p]
  by_cases hp:p=b
  ·subst hp
   rw [List.getElem?_set_self hb]
   simp only
   rw [if_pos hab,ih a hab,ha,rR,if_neg (by omega),if_pos rfl]
  ·rw [List.getElem?_set_ne (fun e=>hp e.symm),gE E p]
   cases h:E[p]? with
   | none=>simp only;rw [if_neg hp]
   | some y =>
    simp only
    by_cases hy:y < p
    ·rw [if_pos hy,if_pos hy];exact ih y hy
    ·rw [if_neg hy,if_neg hy,if_neg hp]
def jd (E:List Nat) (x y:Nat):List Nat:=if bu E x < bu E y then E.set (bu E y) (bu E x) else E.set (bu E x) (bu E y)
theorem nU (E:List Nat) (p:Nat):bu E (bu E p)=bu E p:=by
 rw [gE E (bu E p)]
 cases h:E[bu E p]? with
 | none=>rfl
 | some x=>simp only;rw [if_neg (by have:=GU E p x h;omega)]
theorem nV (E:List Nat) (x y:Nat) (hx:x < E.length) (hy:y < E.length) (p:Nat):bu (jd E x y) p=PA (bu E) x y p:=by
 have hxl:=AW E x
 have nP:=AW E y
 unfold jd PA
 by_cases h:bu E x < bu E y
 ·rw [if_pos h,GV E _ _ h (by omega) (nU E x) (nU E y),Nat.max_eq_right (by omega),Nat.min_eq_left (by omega)]
 ·rw [if_neg h]
  by_cases e:bu E x=bu E y
  ·rw [<- e,Nat.max_self,Nat.min_self]
   have hs:∀ q,bu (E.set (bu E x) (bu E x)) q=bu E q:=by
    intro q
    induction q using Nat.strongRecOn with
    | _ q ih =>
     rw [gE (E.set _ _) q,gE E q]
     by_cases hq:q=bu E x
     ·rw [hq,List.getElem?_set_self (by omega)]
      simp only
      rw [if_neg (by omega)]
      cases h2:E[bu E x]? with
      | none=>rfl
      | some z=>simp only;rw [if_neg (by have:=GU E x z h2;omega)]
     ·rw [List.getElem?_set_ne (fun e=>hq e.symm)]
      cases h2:E[q]? with
      | none=>rfl
      | some z =>
       simp only
       by_cases hz:z < q
       ·rw [if_pos hz,if_pos hz];exact ih z hz
       ·rw [if_neg hz,if_neg hz]
   rw [hs]
   split
   ·rename_i e2;exact e2
   ·rfl
  ·rw [GV E _ _ (by omega) (by omega) (nU E y) (nU E x),Nat.max_eq_left (by omega),Nat.min_eq_right (by omega)]
open Go.RowKit
theorem drop_cons (s:ByteArray) (k:Nat) (h:k < s.size):s.data.toList.drop k=s[k]::s.data.toList.drop (k+1):=by
 rw [List.drop_eq_getElem_cons (by simpa using h)];rfl
theorem rZ (s:ByteArray) (k:Nat) (h:s.size<=k):s.data.toList.drop k=[]:=by
 rw [List.drop_eq_nil_iff];simpa using h
theorem lM {k:IntKind} {a b:Int} (h:a=b):Ending.returned (.int k a)=.returned (.int k b):=by rw [h]
theorem j4 (a b:UInt8):((a.toNat:Int) == (b.toNat:Int))=(a == b):=by
 rw [Bool.eq_iff_iff]
 simp only [beq_iff_eq]
 constructor
 ·intro h;apply UInt8.toNat_inj.1;omega
 ·intro h;rw [h]
theorem PB (a b:UInt8):((a.toNat:Int) != (b.toNat:Int))=(a != b):=by
 simp only [bne,j4]
theorem nW {a b:Bool} (h:a=b):Ending.returned (.bool a)=.returned (.bool b):=by rw [h]
theorem aaa (k:Nat) (h:k<=5):(10:Int) ^ k<=100000:=by
 match k,h with
 | 0,_=>decide
 | 1,_=>decide
 | 2,_=>decide
 | 3,_=>decide
 | 4,_=>decide
 | 5,_=>decide
def bs (l:List UInt8):ByteArray:=⟨l.toArray⟩
theorem RU {s:ByteArray} {l:List UInt8} (h:s.data.toList=l):s=bs l:=by subst h;cases s;rfl
theorem Li (s:ByteArray) (a n:Nat):(s.extract a (a+n)).data.toList=(s.data.toList.drop a).take n:=by
 rw [Lib.extract_data,show a+n - a=n from by omega]
theorem dN (s:ByteArray):s.data.toList.length=s.size:=by simp
theorem uV (s:ByteArray) (k:Nat) (hk:k < s.size) (h:eu s[k]=true):toks (s.size - k) k (s.data.toList.drop k)=toks (s.size - (k+1)) (k+1) (s.data.toList.drop (k+1)):=by
 rw [drop_cons s k hk,show s.size - k=(s.size - (k+1))+1 from by omega,vW _ _ _ _ h]
def j5 (s:ByteArray) (k:Nat):Tk:=⟨(s.data.toList.drop k).take (aK (s.data.toList.drop k)).1,k,(aK (s.data.toList.drop k)).2⟩
theorem yY (s:ByteArray) (k:Nat) (hk:k < s.size) (h:eu s[k]=false) :
  toks (s.size - k) k (s.data.toList.drop k)=j5 s k::toks (s.size - (k+(aK (s.data.toList.drop k)).1)) (k+(aK (s.data.toList.drop k)).1) (s.data.toList.drop (k+(aK (s.data.toList.drop k)).1)):=by
 have hp:=lL (s.data.toList.drop k)
 have e:toks (s.size - k) k (s.data.toList.drop k)=j5 s k::toks (s.size - (k+1)) (k+(aK (s.data.toList.drop k)).1) ((s.data.toList.drop k).drop (aK (s.data.toList.drop k)).1):=by
  unfold j5
  rw [drop_cons s k hk]
  conv=>lhs;rw [show s.size - k=(s.size - (k+1))+1 from by omega]
  rw [Cq _ _ _ _ h]
 rw [e,List.drop_drop]
 congr 1
 apply zL
 ·simp;omega
 ·simp
theorem vX {w w':World} (h:Below w.heap.size w w') (row:Option Nat):w.grownBy w' row:=⟨h.os,h.tape,h.output,h.size,fun k hk _=>h.block k hk⟩
theorem aB {w w':World} {base:Nat} {e:TypeId} {size:Nat} {v:Value} {n:Nat} {xs:List Value} (h:w.ownsRow base e size v n xs) (hb:Below w.heap.size w w'):w'.ownsRow base e size v n xs:=by
 refine h.kept (vX hb none) ?_
 cases v.ownBlock <;> simp
theorem cN (l:List UInt8):(bs l).size=l.length:=by show l.toArray.size=l.length;simp
theorem Cr (s:ByteArray) (k:Nat) (hk:k < s.size):(j5 s k).s.length=(aK (s.data.toList.drop k)).1:=by
 have:=qE (s.data.toList.drop k) (by rw [drop_cons s k hk];simp)
 unfold j5
 simp only [List.length_take];omega
inductive Wt | e | word | close | name | region
 deriving DecidableEq,Repr
def bV (k:Kw) (ae:Bool):List Wt :=
 match k,ae with
 | .aT,_=>[.name,.e,.e,.close]
 | .loop,_=>[.e,.name,.e,.e,.close]
 | .pair,true=>[.region,.e,.e,.close]
 | .new,true=>[.region,.e,.close]
 | .pair,false=>[.e,.e,.close]
 | .add,_=>[.e,.e,.close]
 | .sub,_=>[.e,.e,.close]
 | .less,_=>[.e,.e,.close]
 | .fst,_=>[.e,.close]
 | .snd,_=>[.e,.close]
 | .dQ,_=>[.e,.e,.e,.close]
 | .new,false=>[]
def tA (c:Cl) (ae:Bool):List Wt:=match c with
 | .kw k=>bV k ae
 | _=>[]
def bM (ae:Bool) (len:Nat):List Tk->List Wt->Option Nat
 | [],[]=>none
 | [],_::_=>some len
 | t::_,[]=>some t.at_
 | t::ts,.e::p=>match t.c with
  | .opn=>bM ae len ts (.word::p)
  | .num=>bM ae len ts p
  | .yX=>bM ae len ts p
  | _=>some t.at_
 | t::ts,.word::p=>if tA t.c ae=[] then some t.at_ else bM ae len ts (tA t.c ae++p)
 | t::ts,.close::p=>if t.c=.cls then bM ae len ts p else some t.at_
 | t::ts,.name::p=>if t.c=.yX then bM ae len ts p else some t.at_
 | t::ts,.region::p=>if t.c=.GS then bM ae len ts p else some t.at_
theorem Cs:∀ (f p:Nat) (l:List UInt8),(toks f p l).length<=l.length:=by
 intro f
 induction f with
 | zero=>intro p l;simp [toks]
 | succ f ih =>
  intro p l
  cases l with
  | nil=>simp [toks]
  | cons c r =>
   simp only [toks]
   split
   ·have:=ih (p+1) r;simp;omega
   ·have hp:=lL (c::r)
    have:=ih (p+(aK (c::r)).1) ((c::r).drop (aK (c::r)).1)
    simp only [List.length_drop,List.length_cons] at this
    simp only [List.length_cons];omega
theorem Lj (l m:List UInt8):((bs l).toList == m)=(l == m):=by rw [Lib.toList_data];rfl
theorem bJ (w:World) (l:List Value) (e:TypeId) (j:Nat):(w.alloc (.cells l.toArray e)).cell? (Addr.add ⟨w.heap.size,0,none⟩ j)=l[j]?:=by
 rcases j with _ | j <;> simp [Addr.add]
inductive PT where
 | num (p:Nat) (s:List UInt8)
 | name (p:Nat) (s:List UInt8)
 | node (p:Nat) (k:Kw) (nm rg:List UInt8) (kids:List PT)
mutual
def PT.cnt:PT->Nat
 | .num _ _=>1
 | .name _ _=>1
 | .node _ _ _ _ kids=>1+az kids
def az:List PT->Nat
 | []=>0
 | t::r=>t.cnt+az r
end
mutual
def PT.bK:PT->Nat
 | .num _ _=>0
 | .name _ _=>0
 | .node _ k _ _ kids=>(if k=.pair then 1 else 0)+iX kids
def iX:List PT->Nat
 | []=>0
 | t::r=>t.bK+iX r
end
mutual
inductive PE (ae:Bool):List Tk->PT->List Tk->Prop
 | num {t:Tk} {r:List Tk}:t.c=.num->PE ae (t::r) (.num t.at_ t.s) r
 | name {t:Tk} {r:List Tk}:t.c=.yX->PE ae (t::r) (.name t.at_ t.s) r
 | node {t u:Tk} {k:Kw} {r r':List Tk} {nm rg:List UInt8} {kids:List PT}:t.c=.opn->u.c=.kw k->bV k ae≠[] ->
   PW ae (bV k ae) r nm rg kids r'->PE ae (t::u::r) (.node t.at_ k nm rg kids) r'
inductive PW (ae:Bool):List Wt->List Tk->List UInt8->List UInt8->List PT->List Tk->Prop
 | nil {r:List Tk}:PW ae [] r [] [] [] r
 | close {t:Tk} {ws:List Wt} {r r':List Tk} {nm rg:List UInt8} {kids:List PT}:t.c=.cls->PW ae ws r nm rg kids r'->PW ae (.close::ws) (t::r) nm rg kids r'
 | name {t:Tk} {ws:List Wt} {r r':List Tk} {nm rg:List UInt8} {kids:List PT}:t.c=.yX->PW ae ws r nm rg kids r'->PW ae (.name::ws) (t::r) t.s rg kids r'
 | region {t:Tk} {ws:List Wt} {r r':List Tk} {nm rg:List UInt8} {kids:List PT}:t.c=.GS->PW ae ws r nm rg kids r'->PW ae (.region::ws) (t::r) nm t.s kids r'
 | e {e:PT} {ws:List Wt} {l r r':List Tk} {nm rg:List UInt8} {kids:List PT}:PE ae l e r->PW ae ws r nm rg kids r'->PW ae (.e::ws) l nm rg (e::kids) r'
end
mutual
theorem PE.sound {ae:Bool} {len:Nat}:∀ {l:List Tk} {e:PT} {r:List Tk},PE ae l e r->∀ p,bM ae len l (.e::p)=bM ae len r p
 | _,_,_,.num h,p=>by simp [bM,h]
 | _,_,_,.name h,p=>by simp [bM,h]
 | _,_,_,.node (k:=k) h1 h2 h3 h4,p=>by
  have:=PW.sound (len:=len) h4 p
  simp only [bM,h1,h2,tA]
  rw [if_neg h3];exact this
theorem PW.sound {ae:Bool} {len:Nat}:∀ {ws:List Wt} {l:List Tk} {nm rg:List UInt8} {kids:List PT} {r:List Tk},PW ae ws l nm rg kids r->∀ p,bM ae len l (ws++p)=bM ae len r p
 | _,_,_,_,_,_,.nil,p=>rfl
 | _,_,_,_,_,_,.close h h1,p=>by have:=PW.sound (len:=len) h1 p;simp only [List.cons_append,bM,if_pos h];exact this
 | _,_,_,_,_,_,.name h h1,p=>by have:=PW.sound (len:=len) h1 p;simp only [List.cons_append,bM,if_pos h];exact this
 | _,_,_,_,_,_,.region h h1,p=>by have:=PW.sound (len:=len) h1 p;simp only [List.cons_append,bM,if_pos h];exact this
 | _,_,_,_,_,_,.e (ws:=ws) h h1,p=>by have:=PE.sound (len:=len) h (ws++p);rw [List.cons_append,this];exact PW.sound h1 p
end
mutual
theorem PE.len {ae:Bool}:∀ {l:List Tk} {e:PT} {r:List Tk},PE ae l e r->r.length < l.length
 | _,_,_,.num _=>by simp
 | _,_,_,.name _=>by simp
 | _,_,_,.node _ _ _ h4=>by have:=PW.len h4;simp;omega
theorem PW.len {ae:Bool}:∀ {ws:List Wt} {l:List Tk} {nm rg:List UInt8} {kids:List PT} {r:List Tk},PW ae ws l nm rg kids r->r.length<=l.length
 | _,_,_,_,_,_,.nil=>Nat.le_refl _
 | _,_,_,_,_,_,.close _ h1=>by have:=PW.len h1;simp;omega
 | _,_,_,_,_,_,.name _ h1=>by have:=PW.len h1;simp;omega
 | _,_,_,_,_,_,.region _ h1=>by have:=PW.len h1;simp;omega
 | _,_,_,_,_,_,.e h h1=>by have:=PE.len h;have:=PW.len h1;omega
end
def Ll (l:List Wt):Nat:=(l.filter (·=.e)).length
mutual
theorem PE.used {ae:Bool}:∀ {l:List Tk} {e:PT} {r:List Tk},PE ae l e r->e.cnt+r.length<=l.length/\e.bK+r.length+1<=l.length
 | _,_,_,.num _=>by simp [PT.cnt,PT.bK];omega
 | _,_,_,.name _=>by simp [PT.cnt,PT.bK];omega
 | _,_,_,.node (k:=k) _ _ _ h4=>by have:=PW.used h4;simp [PT.cnt,PT.bK];split <;> omega
theorem PW.used {ae:Bool}:∀ {ws:List Wt} {l:List Tk} {nm rg:List UInt8} {kids:List PT} {r:List Tk},PW ae ws l nm rg kids r->az kids+r.length<=l.length/\iX kids+r.length<=l.length
 | _,_,_,_,_,_,.nil=>by simp [az,iX]
 | _,_,_,_,_,_,.close _ h1=>by have:=PW.used h1;simp;omega
 | _,_,_,_,_,_,.name _ h1=>by have:=PW.used h1;simp;omega
 | _,_,_,_,_,_,.region _ h1=>by have:=PW.used h1;simp;omega
 | _,_,_,_,_,_,.e h h1=>by have:=PE.used h;have:=PW.used h1;simp only [az,iX];omega
end
theorem PE.suffix {ae:Bool} {l:List Tk} {e:PT} {r:List Tk} (h:PE ae l e r):∃ t r',l=t::r'/\(t.c=.num\/t.c=.yX\/t.c=.opn):=by
 cases h with
 | num h=>exact ⟨_,_,rfl,Or.inl h⟩
 | name h=>exact ⟨_,_,rfl,Or.inr (Or.inl h)⟩
 | node h _ _ _=>exact ⟨_,_,rfl,Or.inr (Or.inr h)⟩
structure TN where
 kind:Nat
 at_:Nat
 aR:Nat
 word:List UInt8
 num:Int
def bF:Cl->Nat
 | .bad=>1
 | .opn=>2
 | .cls=>3
 | .yX=>4
 | .num=>5
 | .GS=>6
 | .kw .aT=>7
 | .kw .pair=>8
 | .kw .fst=>9
 | .kw .snd=>10
 | .kw .dQ=>11
 | .kw .add=>12
 | .kw .sub=>13
 | .kw .less=>14
 | .kw .loop=>15
 | .kw .new=>16
def ux (t:Tk):List UInt8:=match t.c with
 | .yX=>t.s
 | .kw _=>t.s
 | _=>[]
def Ct (t:Tk):Int:=match t.c with
 | .num=>aq t.s
 | .GS=>aq t.s
 | _=>0
def gM (t:Tk):TN:=⟨bF t.c,t.at_,t.at_+t.s.length,ux t,Ct t⟩
def gj (s:List UInt8) (p:Nat):List Tk:=toks (s.length - p) p (s.drop p)
def eY (len:Nat) (l:List Tk):TN:=match l with
 | []=>⟨0,len,len,[],0⟩
 | t::_=>gM t
structure NR where
 form:Nat
 at_:Nat
 aR:Nat
 num:Int
 word:List UInt8
 region:Int
 source:Int
 p0:Int
 p1:Int
 p2:Int
structure PS where
 l:List Tk
 fl:Option Nat
 scope:List (List UInt8 × Int)
 nodes:List NR
 opened:List Int
def PS.fail (at_:Nat) (st:PS):PS:=match st.fl with
 | some _=>st
 | none=>{ st with fl:=some at_,l:=[] }
def PS.tail (st:PS):PS:={ st with l:=st.l.tail }
def PS.expect (len kind:Nat) (st:PS):PS:=if (eY len st.l).kind≠kind then st.tail.fail (eY len st.l).at_ else st.tail
def PS.add (n:NR) (st:PS):PS:={ st with nodes:=st.nodes++[n] }
def bN (scope:List (List UInt8 × Int)) (w:List UInt8):Int:=match scope.reverse.find? (fun x=>x.1 == w) with
 | some x=>x.2
 | none=>-1
def cP:Nat->Nat
 | 7=>3
 | 8=>4
 | 9=>5
 | 10=>6
 | 11=>7
 | 12=>8
 | 13=>9
 | 14=>10
 | 15=>11
 | 16=>12
 | _=>0
def eZ (pE:PS->Int × PS) (word:List UInt8) (src:Int) (st:PS):Int × PS :=
 let x:=pE { st with scope:=st.scope++[(word,src)] }
 (x.1,{ x.2 with scope:=x.2.scope.dropLast })
def PD (len:Nat) (pE:PS->Int × PS) (n:NR) (st:PS):NR × PS :=
 let nm:=eY len st.l
 let x:=pE (st.expect len 4)
 let y:=eZ pE nm.word x.1 x.2
 ({ n with word:=nm.word,p0:=x.1,p1:=y.1,p2:=-1 },y.2)
def GW (len:Nat) (pE:PS->Int × PS) (n:NR) (st:PS):NR × PS :=
 let t:=pE st
 let nm:=eY len t.2.l
 let x:=pE (t.2.expect len 4)
 let y:=eZ pE nm.word x.1 x.2
 ({ n with word:=nm.word,p0:=t.1,p1:=x.1,p2:=y.1 },y.2)
def j6 (len:Nat) (n:NR) (st:PS):NR × PS:=({ n with region:=(eY len st.l).num },st.expect len 6)
def vY (pE:PS->Int × PS) (n:NR) (st:PS):NR × PS :=
 let x:=pE st
 ({ n with p0:=x.1 },x.2)
def uy (pE:PS->Int × PS) (n:NR) (st:PS):NR × PS :=
 let x:=vY pE n st
 let y:=pE x.2
 ({ x.1 with p1:=y.1 },y.2)
def Cu (pE:PS->Int × PS) (n:NR) (st:PS):NR × PS :=
 let x:=uy pE n st
 let y:=pE x.2
 ({ x.1 with p2:=y.1 },y.2)
def nX (ae:Bool) (len:Nat) (pE:PS->Int × PS) (n:NR) (st:PS):NR × PS :=
 if n.form=3 then PD len pE n st
 else if n.form=11 then GW len pE n st
 else if n.form=4 then (if ae then uy pE (j6 len n st).1 (j6 len n st).2 else uy pE n st)
 else if n.form=12 then vY pE (j6 len n st).1 (j6 len n st).2
 else if n.form=5\/n.form=6 then vY pE n st
 else if n.form=7 then Cu pE n st
 else uy pE n st
def gF (ae:Bool) (len:Nat) (pE:PS->Int × PS) (n:NR) (st:PS):Int × PS :=
 let w:=eY len st.l
 let f:=cP w.kind
 if f=0\/(f=12/\ae=false) then (-1,st.tail.fail w.at_)
 else
  let x:=nX ae len pE { n with form:=f } st.tail
  let e:=eY len x.2.l
  (((x.2.expect len 3).nodes.length:Int),(x.2.expect len 3).add { x.1 with aR:=e.aR })
def je (t:TN):NR:=⟨0,t.at_,t.aR,0,[],0,-1,-1,-1,-1⟩
def iw (len:Nat) (pB:NR->PS->Int × PS) (st:PS):Int × PS :=
 let t:=eY len st.l
 if t.kind=5 then ((st.nodes.length:Int),st.tail.add { je t with form:=1,num:=t.num })
 else if t.kind=4 then ((st.nodes.length:Int),st.tail.add { je t with form:=2,word:=t.word,source:=bN st.scope t.word })
 else if t.kind=2 then pB (je t) st.tail
 else (-1,st.tail.fail t.at_)
def iy (f:PS->Int × PS) (st:PS):Int × PS :=
 let x:=f { st with opened:=st.opened++[-1] }
 (x.1,{ x.2 with opened:=x.2.opened.set st.opened.length x.1 })
def fe (ae:Bool) (len:Nat):Nat->PS->Int × PS
 | 0=>iy (iw len fun _ st=>(-1,st))
 | m+1=>iy (iw len (gF ae len (fe ae len m)))
theorem I7 (c:Cl):bF c=5↔c=.num:=by
 cases c with
 | kw k=>cases k <;> decide
 | _=>decide
theorem mA (c:Cl):bF c=4↔c=.yX:=by
 cases c with
 | kw k=>cases k <;> decide
 | _=>decide
theorem I8 (c:Cl):bF c=2↔c=.opn:=by
 cases c with
 | kw k=>cases k <;> decide
 | _=>decide
theorem tB (c:Cl):bF c=3↔c=.cls:=by
 cases c with
 | kw k=>cases k <;> decide
 | _=>decide
theorem oR (c:Cl):bF c=6↔c=.GS:=by
 cases c with
 | kw k=>cases k <;> decide
 | _=>decide
def PS.stuck (q:Nat) (st:PS):Prop:=st.fl=some q/\st.l=[]
theorem vZ {q a:Nat} {st:PS} (h:st.stuck q):(st.fail a).stuck q:=by
 obtain ⟨h1,h2⟩:=h
 unfold PS.fail;rw [h1];exact ⟨h1,h2⟩
theorem qF {q:Nat} {st:PS} (h:st.stuck q):st.tail.stuck q:=⟨h.1,by simp [PS.tail,h.2]⟩
theorem dO {q len k:Nat} {st:PS} (h:st.stuck q):(st.expect len k).stuck q:=by
 unfold PS.expect;split
 ·exact vZ (qF h)
 ·exact qF h
theorem kK {a:Nat} {st:PS} (h:st.fl=none):(st.fail a).stuck a:=by
 unfold PS.fail;rw [h];exact ⟨rfl,rfl⟩
def we (pE:PS->Int × PS):Prop:=∀ (q:Nat) (st:PS),st.stuck q->(pE st).2.stuck q
theorem zN (len:Nat) (pB:NR->PS->Int × PS):we (iw len pB):=by
 intro q st h
 unfold iw
 simp only [h.2,eY]
 exact vZ (qF h)
theorem wg {f:PS->Int × PS} (hf:we f):we (iy f):=by
 intro q st h
 exact hf q { st with opened:=st.opened++[-1] } h
theorem E4 (ae:Bool) (len n:Nat):we (fe ae len n):=by
 cases n with
 | zero=>exact wg (zN _ _)
 | succ m=>exact wg (zN _ _)
theorem E5 {pE:PS->Int × PS} (h:we pE) (w:List UInt8) (src:Int) {q:Nat} {st:PS} (hs:st.stuck q):(eZ pE w src st).2.stuck q:=h q { st with scope:=st.scope++[(w,src)] } hs
theorem nY (st:PS):st.tail.l.length<=st.l.length:=by simp [PS.tail]
def bA (s:ByteArray) (a:Nat):UInt8:=if h:a < s.size then s[a] else 0
theorem wh (s:ByteArray) (a:Nat) (h:a < s.size):bA s a=s[a]:=by unfold bA;rw [dif_pos h]
theorem Lm (s:ByteArray) (a:Nat) (h:s.size<=a):bA s a=0:=by unfold bA;rw [dif_neg (by omega)]
theorem kL (s:ByteArray) (a:Nat) (w:World) (ha:a<=10000) :
  Calls Tryz.prog 136 #[.string s,.int .i64 a] w fun e w'=>e=.returned (.int .u8 ((bA s a).toNat:Int))/\w'=w:=by
 by_cases h:a < s.size
 ·rw [wh s a h]
  go_enter Tryz.func136,Tryz.ntmps136
  go_wp2
  go_ret
  exact ⟨rfl,rfl⟩
 ·rw [Lm s a (by omega)]
  go_enter Tryz.func136,Tryz.ntmps136
  go_wp2
  go_ret
  exact ⟨rfl,rfl⟩
theorem r7 (c:UInt8) (w:World) :
  Calls Tryz.prog 137 #[.int .u8 (c.toNat:Int)] w fun e w'=>e=.returned (.bool (jX 97 122 c))/\w'=w:=by
 have hc:c.toNat < 256:=c.toNat_lt
 unfold jX
 go_enter Tryz.func137,Tryz.ntmps137
 go_wp2
 all_goals go_ret
 ·refine ⟨nW ?_,rfl⟩
  have h1:(97:Int)<=(c.toNat:Int):=by assumption
  simp [h1]
 ·refine ⟨nW ?_,rfl⟩
  have h1:¬ (97:Int)<=(c.toNat:Int):=by omega
  simp [h1]
theorem uz (c:UInt8) (w:World) :
  Calls Tryz.prog 139 #[.int .u8 (c.toNat:Int)] w fun e w'=>e=.returned (.bool (jX 48 57 c))/\w'=w:=by
 have hc:c.toNat < 256:=c.toNat_lt
 unfold jX
 go_enter Tryz.func139,Tryz.ntmps139
 go_wp2
 all_goals go_ret
 ·refine ⟨nW ?_,rfl⟩
  have h1:(48:Int)<=(c.toNat:Int):=by assumption
  simp [h1]
 ·refine ⟨nW ?_,rfl⟩
  have h1:¬ (48:Int)<=(c.toNat:Int):=by omega
  simp [h1]
theorem uA (c:UInt8) (w:World) :
  Calls Tryz.prog 145 #[.int .u8 (c.toNat:Int)] w fun e w'=>e=.returned (.bool (eu c))/\w'=w:=by
 have e1:((c.toNat:Int) == 32)=(c == 32):=j4 c 32
 have e2:((c.toNat:Int) == 10)=(c == 10):=j4 c 10
 unfold eu
 rw [<- e1,<- e2]
 clear e1 e2
 go_enter Tryz.func145,Tryz.ntmps145
 go_wp2
 all_goals go_ret
 all_goals
  refine ⟨nW ?_,rfl⟩
  simp_all
def uW:List UInt8->Nat
 | []=>0
 | c::r=>if eu c then uW r+1 else 0
theorem Ln (l:List UInt8):uW l<=l.length:=by
 induction l with
 | nil=>simp [uW]
 | cons c r ih=>simp only [uW];split <;> simp <;> omega
theorem wj (s:ByteArray) (a:Nat) (w:World) (hs:s.size<=9000) (ha:a<=s.size) :
  Calls Tryz.prog 135 #[.string s,.int .i64 a] w fun e w'=>e=.returned (.int .i64 ((a+uW (s.data.toList.drop a):Nat):Int))/\w'=w:=by
 have hby:=fun k (h:k<=10000) w=>kL s k w h
 go_enter Tryz.func135,Tryz.ntmps135
 go_wp2
 go_loop [5] (fun i=>∃ k:Nat,k<=s.size/\i=.int .i64 k/\a+uW (s.data.toList.drop a)=k+uW (s.data.toList.drop k)) (fun i=>s.size - (intOf i).toNat)
 case atStart=>exact ⟨a,ha,rfl,rfl⟩
 case round =>
  obtain ⟨k,hk,rfl,hr⟩:=hrel
  have HR:Hid _:=hr
  clear hr
  by_cases hlt:k < s.size
  ·by_cases hb:eu s[k]=true
   ·have hn:uW (s.data.toList.drop k)=uW (s.data.toList.drop (k+1))+1:=by rw [drop_cons s k hlt];simp [uW,hb]
    have HN:Hid _:=hn
    have hbl:=fun w=>uA s[k] w
    rw [hb] at hbl
    have hbk:=hby k (by omega)
    rw [wh s k hlt] at hbk
    clear hn hb
    go_wp2_with (first
     | (go_at_call 136;refine (hbk _).mono ?_;rintro e w' ⟨rfl,rfl⟩)
     | (go_at_call 145;refine (hbl _).mono ?_;rintro e w' ⟨rfl,rfl⟩))
    go_round
    case rel=>exact ⟨k+1,by omega,by go_num,by rw [HR.out,HN.out];omega⟩
    case measure=>simp [intOf];omega
   ·have hb0:eu s[k]=false:=by simpa using hb
    have hn:uW (s.data.toList.drop k)=0:=by rw [drop_cons s k hlt];simp [uW,hb0]
    have HN:Hid _:=hn
    have hbl:=fun w=>uA s[k] w
    rw [hb0] at hbl
    have hbk:=hby k (by omega)
    rw [wh s k hlt] at hbk
    clear hn hb hb0
    go_wp2_with (first
     | (go_at_call 136;refine (hbk _).mono ?_;rintro e w' ⟨rfl,rfl⟩)
     | (go_at_call 145;refine (hbl _).mono ?_;rintro e w' ⟨rfl,rfl⟩))
    go_ret
    exact ⟨lM (by have h1:=HR.out;have h2:=HN.out;omega),rfl⟩
  ·have hn:uW (s.data.toList.drop k)=0:=by rw [rZ s k (by omega)];rfl
   have HN:Hid _:=hn
   clear hn
   go_wp2
   go_ret
   exact ⟨lM (by have h1:=HR.out;have h2:=HN.out;omega),rfl⟩
theorem Cv (s:ByteArray) (a n b:Nat) (w:World) (hs:s.size<=9000) (hab:b=a+n) (ha:b<=s.size) (hn:n<=5) (hd:∀ c∈(s.data.toList.drop a).take n,c≠35) :
  Calls Tryz.prog 148 #[.string s,.int .i64 a,.int .i64 b] w fun e w'=>e=.returned (.int .i64 (aq ((s.data.toList.drop a).take n)))/\w'=w:=by
 have hby:=fun k (h:k<=10000) w=>kL s k w h
 have HD:Hid _:=hd
 clear hd
 go_enter Tryz.func148,Tryz.ntmps148
 go_wp2
 go_loop [7,8] (fun v i=>∃ k j:Nat,k<=n/\j=a+k/\i=.int .i64 j/\v=.int .i64 (aq ((s.data.toList.drop a).take k))) (fun _ i=>b - (intOf i).toNat)
 case atStart=>exact ⟨0,a,by omega,rfl,rfl,rfl⟩
 case round =>
  obtain ⟨k,j,hk,hj,rfl,rfl⟩:=hrel
  have hb:=I5 ((s.data.toList.drop a).take k)
  have hp:=aaa ((s.data.toList.drop a).take k).length (by simp;omega)
  obtain ⟨m,hm⟩:∃ m,m=aq ((s.data.toList.drop a).take k):=⟨_,rfl⟩
  rw [<- hm] at hb
  obtain ⟨hb1,hb2⟩:-3000000<=m/\m<=3000000:=by omega
  clear hp hb
  by_cases hlt:k < n
  ·have hin:j < s.size:=by omega
   have gY:aq ((s.data.toList.drop a).take (k+1))=10 * m+(s[j].toNat:Int) - 48:=by
    have e:(s.data.toList.drop a).take (k+1)=(s.data.toList.drop a).take k++[s[j]]:=by
     subst hj;rw [List.take_succ_eq_append_getElem (by simp;omega),List.getElem_drop];rfl
    have hne:s[j]≠35:=by
     apply HD.out
     have:s[j]∈(s.data.toList.drop a).take (k+1):=by rw [e];simp
     rw [show (s.data.toList.drop a).take (k+1)=((s.data.toList.drop a).take n).take (k+1) from by rw [List.take_take,Nat.min_eq_left (by omega)]] at this
     exact List.mem_of_mem_take this
    rw [e,uu,if_neg hne,hm]
   have HS:Hid _:=gY
   have yQ:s[j].toNat < 256:=s[j].toNat_lt
   have HC:Hid _:=yQ
   have hbk:=hby j (by omega)
   rw [wh s j hin] at hbk
   clear gY yQ
   rw [<- hm]
   have HM:Hid _:=hm
   clear hm
   have HJ:Hid (j=a+k):=hj
   have hjb:j < b:=by omega
   have PF:Hid (b=a+n):=hab
   clear hj hab
   go_wp2_with fail
   refine (hbk _).mono ?_
   rintro e w' ⟨rfl,rfl⟩
   go_wp2
   go_round
   case rel =>
    have:=HJ.out
    refine ⟨k+1,j+1,by omega,by omega,by go_num,?_⟩
    rw [HS.out]
    have:=HC.out
    rw [IntWalk.wrap64_in (s[j].toNat:Int) (by omega),IntWalk.wrap64_in (m * 10+(s[j].toNat:Int)) (by omega),IntWalk.wrap64_in _ (by omega),Int.mul_comm m 10]
   case measure=>simp [intOf];omega
  ·have hkn:k=n:=by omega
   subst hkn
   go_wp2
   go_ret
   exact ⟨rfl,rfl⟩
theorem PG (s:ByteArray) (a b:Nat) (w:World) (ha:a<=b) (hb:b<=s.size) :
  Calls Tryz.prog 146 #[.string s,.int .i64 a,.int .i64 b] w fun e w'=>e=.returned (.string (s.extract a b))/\w'=w:=by
 go_enter Tryz.func146,Tryz.ntmps146
 go_wp2
 go_ret
 exact ⟨rfl,rfl⟩
theorem l6 (s:ByteArray) (k:Kw):(s.toList == k.bytes)=decide (uU s.data.toList=some k):=by
 rw [Lib.toList_data]
 by_cases h:uU s.data.toList=some k
 ·rw [decide_eq_true h,tz h];simp
 ·rw [decide_eq_false h,beq_eq_false_iff_ne]
  intro e;rw [e,vV] at h;exact h rfl
theorem E6 (s:ByteArray) (w:World) :
  Calls Tryz.prog 147 #[.string s] w fun e w'=>e=.returned (.int .i64 ((bF (ep s.data.toList 0):Nat):Int))/\w'=w:=by
 have f1:=l6 s .aT
 have f2:=l6 s .pair
 have f3:=l6 s .fst
 have f4:=l6 s .snd
 have f5:=l6 s .dQ
 have f6:=l6 s .add
 have f7:=l6 s .sub
 have f8:=l6 s .less
 have f9:=l6 s .loop
 have f10:=l6 s .new
 simp only [Kw.bytes] at f1 f2 f3 f4 f5 f6 f7 f8 f9 f10
 unfold ep
 cases hk:uU s.data.toList with
 | none =>
  rw [hk] at f1 f2 f3 f4 f5 f6 f7 f8 f9 f10
  simp only [reduceCtorEq,decide_false] at f1 f2 f3 f4 f5 f6 f7 f8 f9 f10
  clear hk
  go_enter Tryz.func147,Tryz.ntmps147
  go_wp2
  go_ret
  exact ⟨rfl,rfl⟩
 | some k =>
  rw [hk] at f1 f2 f3 f4 f5 f6 f7 f8 f9 f10
  clear hk
  cases k
  all_goals
   simp only [Option.some.injEq,reduceCtorEq,decide_false,decide_true] at f1 f2 f3 f4 f5 f6 f7 f8 f9 f10
   go_enter Tryz.func147,Tryz.ntmps147
   go_wp2
   go_ret
   exact ⟨rfl,rfl⟩
def iz (t:TN):Value:=.agg #[.int .i64 t.kind,.int .i64 t.at_,.int .i64 t.aR,.string (bs t.word),.int .i64 t.num]
theorem Lp (s:ByteArray) (k:Nat) (lo hi:Int) (hlo:0 < lo):(jX lo hi (bA s k)=true/\k < s.size/\run lo hi (s.data.toList.drop k)=run lo hi (s.data.toList.drop (k+1))+1)\/(jX lo hi (bA s k)=false/\run lo hi (s.data.toList.drop k)=0):=by
 by_cases h:k < s.size
 ·rw [wh s k h,drop_cons s k h]
  cases hb:jX lo hi s[k] with
  | true=>left;exact ⟨rfl,h,by simp [run,hb]⟩
  | false=>right;exact ⟨rfl,by simp [run,hb]⟩
 ·right
  rw [Lm s k (by omega),rZ s k (by omega)]
  refine ⟨?_,rfl⟩
  unfold jX
  have h0:((0:UInt8).toNat:Int)=0:=rfl
  rw [h0,decide_eq_false (by omega:¬ lo<=0)];rfl
theorem AX (l:List UInt8) (n:Nat) (h:n<=8):ep l n=ep l 0:=by
 unfold ep;cases uU l <;> simp [h]
theorem wk (l:List UInt8) (h:8 < l.length):ep l l.length=.bad:=by
 unfold ep
 cases hk:uU l with
 | none=>simp;omega
 | some k =>
  have:=tz hk
  rw [this] at h
  clear this hk
  revert h
  cases k <;> simp [Kw.bytes]
theorem AY (s:ByteArray) (a n:Nat) (w:World) (hs:s.size<=9000) (hn:n=run 97 122 (s.data.toList.drop a)) (ha:a+n<=s.size) :
  Calls Tryz.prog 138 #[.string s,.int .i64 a] w fun e w'=>e=.returned (iz ⟨bF (ep ((s.data.toList.drop a).take n) n),a,a+n,if n<=8 then (s.data.toList.drop a).take n else [],0⟩)/\Below w.heap.size w w':=by
 have hby:=fun k (h:k<=10000) w=>kL s k w h
 have HN:Hid _:=hn
 clear hn
 go_enter Tryz.func138,Tryz.ntmps138
 go_wp2
 go_loop [5] (fun i=>∃ k j:Nat,k<=n/\Hid (j=a+k)/\j<=s.size/\i=.int .i64 j/\Hid (n=k+run 97 122 (s.data.toList.drop j))) (fun i=>s.size - (intOf i).toNat)
 case atStart=>exact ⟨0,a,by omega,(rfl:a=a+0),by omega,rfl,(by rw [<- HN.out];omega:n=0+run 97 122 (s.data.toList.drop a))⟩
 case round =>
  obtain ⟨k,j,hk,HJ,hjs,rfl,HR⟩:=hrel
  have hbk:=hby j (by omega)
  have lN:=fun w=>r7 (bA s j) w
  rcases Lp s j 97 122 (by decide) with ⟨h1,h2,h3⟩ | ⟨h1,h2⟩
  ·rw [h1] at lN
   have H3:Hid _:=h3
   clear h1 h3
   go_wp2_with (first
    | (go_at_call 136;refine (hbk _).mono ?_;rintro e w' ⟨rfl,rfl⟩)
    | (go_at_call 137;refine (lN _).mono ?_;rintro e w' ⟨rfl,rfl⟩))
   go_round
   case rel=>exact ⟨k+1,j+1,by have h:=HR.out;rw [H3.out] at h;omega,(by have h:=HJ.out;omega:j+1=a+(k+1)),by omega,by go_num,(by have h:=HR.out;rw [H3.out] at h;omega:n=(k+1)+run 97 122 (s.data.toList.drop (j+1)))⟩
   case measure=>simp [intOf];omega
  ·rw [h1] at lN
   have hkn:k=n:=by have h:=HR.out;rw [h2] at h;omega
   have VY:j=a+n:=by rw [<- hkn];exact HJ.out
   clear h1 h2 HR
   have hcu:=fun w=>PG s a j w (by omega) hjs
   have Zw:=fun w=>E6 (s.extract a j) w
   have hex:(s.extract a j).data.toList=(s.data.toList.drop a).take n:=by rw [VY,Li]
   rw [hex] at Zw
   have Cw:Hid _:=RU hex
   have PH:Hid (j=a+n):=VY
   have hjk:(j:Int) - (a:Int)=(n:Int):=by omega
   clear hex VY hkn HJ hk
   by_cases h8:n<=8
   ·have H8:Hid (n<=8):=h8
    go_wp2_with (first
     | (go_at_call 136;refine (hbk _).mono ?_;rintro e w' ⟨rfl,rfl⟩)
     | (go_at_call 137;refine (lN _).mono ?_;rintro e w' ⟨rfl,rfl⟩)
     | (go_at_call 146;refine (hcu _).mono ?_;rintro e w' ⟨rfl,rfl⟩)
     | (go_at_call 147;refine (Zw _).mono ?_;rintro e w' ⟨rfl,rfl⟩))
    refine bodyPost_ret (v:=.agg #[.int .i64 ((bF (ep ((s.data.toList.drop a).take n) 0):Nat):Int),.int .i64 a,.int .i64 j,.string (s.extract a j),.int .i64 0]) (by simp [results,Tryz.results138,go_sem]) rfl ⟨?_,(Below.refl _ _).alloc (Nat.le_refl _) _⟩
    rw [Cw.out,PH.out,AX _ _ H8.out];first | rfl | (rw [if_pos H8.out];rfl)
   ·have H8:Hid (¬ n<=8):=h8
    have hlen:((s.data.toList.drop a).take n).length=n:=by simp;omega
    have HB:Hid (ep ((s.data.toList.drop a).take n) n=.bad):=by
     have:=wk ((s.data.toList.drop a).take n) (by omega)
     rw [hlen] at this;exact this
    clear hlen
    go_wp2_with (first
     | (go_at_call 136;refine (hbk _).mono ?_;rintro e w' ⟨rfl,rfl⟩)
     | (go_at_call 137;refine (lN _).mono ?_;rintro e w' ⟨rfl,rfl⟩))
    refine bodyPost_ret (v:=.agg #[.int .i64 1,.int .i64 a,.int .i64 j,.string ⟨#[]⟩,.int .i64 0]) (by simp [results,Tryz.results138,go_sem]) rfl ⟨?_,(Below.refl _ _).alloc (Nat.le_refl _) _⟩
    rw [HB.out,PH.out];first | rfl | (rw [if_neg H8.out];rfl)
theorem PI (lo hi:Int) (l:List UInt8):∀ c∈l.take (run lo hi l),jX lo hi c=true:=by
 induction l with
 | nil=>simp
 | cons c r ih =>
  simp only [run]
  by_cases h:jX lo hi c=true
  ·rw [if_pos h,List.take_succ_cons]
   intro x hx
   rcases List.mem_cons.1 hx with rfl | hx
   ·exact h
   ·exact ih x hx
  ·rw [if_neg h];simp
def kM (l:List UInt8) (most kind a d n:Nat):TN:=if cj (l.take n) most then ⟨kind,a,d+n,[],aq (l.take n)⟩ else ⟨1,a,d+n,[],0⟩
theorem nZ (s:ByteArray) (a d n most kind:Nat) (w:World) (hs:s.size<=9000) (hn:n=run 48 57 (s.data.toList.drop d)) (ha:d+n<=s.size) (hm:3<=most/\most<=4) :
  Calls Tryz.prog 140 #[.string s,.int .i64 a,.int .i64 d,.int .i64 most,.int .i64 kind] w fun e w'=>e=.returned (iz (kM (s.data.toList.drop d) most kind a d n))/\Below w.heap.size w w':=by
 have hby:=fun k (h:k<=10000) w=>kL s k w h
 have Wy:∀ c∈(s.data.toList.drop d).take n,c≠35:=by
  rw [hn];intro c hc e
  have:=PI 48 57 _ c hc
  rw [e] at this;revert this;decide
 have aab:Hid _:=Wy
 have HN:Hid _:=hn
 have hlen:((s.data.toList.drop d).take n).length=n:=by simp;omega
 have hhead:0 < n->((s.data.toList.drop d).take n).head?=some (bA s d):=by
  intro h0
  rw [wh s d (by omega),drop_cons s d (by omega)]
  obtain ⟨m,rfl⟩:∃ m,n=m+1:=⟨n - 1,by omega⟩
  simp
 have pO:cj ((s.data.toList.drop d).take n) most=(decide (0 < n) && decide (n<=most) && (decide (n=1) || (((s.data.toList.drop d).take n).head? != some 48))):=by unfold cj;rw [hlen]
 have yZ:Hid _:=pO
 have Wz:Hid _:=hhead
 clear hn Wy hlen pO hhead
 go_enter Tryz.func140,Tryz.ntmps140
 go_wp2
 go_loop [11] (fun i=>∃ k j:Nat,k<=n/\Hid (j=d+k)/\j<=s.size/\i=.int .i64 j/\Hid (n=k+run 48 57 (s.data.toList.drop j))) (fun i=>s.size - (intOf i).toNat)
 case atStart=>exact ⟨0,d,by omega,(rfl:d=d+0),by omega,rfl,(by rw [<- HN.out];omega:n=0+run 48 57 (s.data.toList.drop d))⟩
 case round =>
  obtain ⟨k,j,hk,HJ,hjs,rfl,HR⟩:=hrel
  have hbk:=hby j (by omega)
  have lN:=fun w=>uz (bA s j) w
  rcases Lp s j 48 57 (by decide) with ⟨h1,h2,h3⟩ | ⟨h1,h2⟩
  ·rw [h1] at lN
   have H3:Hid _:=h3
   clear h1 h3
   go_wp2_with (first
    | (go_at_call 136;refine (hbk _).mono ?_;rintro e w' ⟨rfl,rfl⟩)
    | (go_at_call 139;refine (lN _).mono ?_;rintro e w' ⟨rfl,rfl⟩))
   go_round
   case rel=>exact ⟨k+1,j+1,by have h:=HR.out;rw [H3.out] at h;omega,(by have h:=HJ.out;omega:j+1=d+(k+1)),by omega,by go_num,(by have h:=HR.out;rw [H3.out] at h;omega:n=(k+1)+run 48 57 (s.data.toList.drop (j+1)))⟩
   case measure=>simp [intOf];omega
  ·rw [h1] at lN
   have hkn:k=n:=by have h:=HR.out;rw [h2] at h;omega
   have VY:j=d+n:=by rw [<- hkn];exact HJ.out
   clear h1 h2 HR
   have PH:Hid (j=d+n):=VY
   have hjk:(j:Int) - (d:Int)=(n:Int):=by omega
   have gZ:=hby d (by omega)
   have e48:(((bA s d).toNat:Int) == 48)=(bA s d == 48):=j4 (bA s d) 48
   have WA:Hid _:=e48
   clear VY hkn HJ hk e48
   by_cases c0:n=0
   ·have b0:((n:Int) == 0)=true:=by rw [c0];rfl
    have HF:Hid (kM (s.data.toList.drop d) most kind a d n=⟨1,a,d+n,[],0⟩):=by
     have:cj ((s.data.toList.drop d).take n) most=false:=by rw [yZ.out];simp [c0]
     unfold kM;rw [this];rfl
    have c0':n < 1:=by omega
    clear c0
    go_wp2_with (first
     | (go_at_call_of 136 (Value.int IntKind.i64 (j:Int));refine (hbk _).mono ?_;rintro e w' ⟨rfl,rfl⟩)
     | (go_at_call_of 136 (Value.int IntKind.i64 (d:Int));refine (gZ _).mono ?_;rintro e w' ⟨rfl,rfl⟩)
     | (go_at_call 139;refine (lN _).mono ?_;rintro e w' ⟨rfl,rfl⟩)
     | (go_at_call 148;refine (S9 _).mono ?_;rintro e w' ⟨rfl,rfl⟩))
    refine bodyPost_ret (v:=.agg #[.int .i64 1,.int .i64 a,.int .i64 j,.string ⟨#[]⟩,.int .i64 0]) (by simp [results,Tryz.results140,go_sem]) rfl ⟨?_,(Below.refl _ _).alloc (Nat.le_refl _) _⟩
    rw [HF.out,PH.out];rfl
   ·have b0:((n:Int) == 0)=false:=by rw [beq_eq_false_iff_ne];omega
    have c1:1<=n:=by omega
    have hh:=Wz.out (by omega)
    by_cases cm:n<=most
    ·have S9:=fun w=>Cv s d n j w hs PH.out hjs (by omega) aab.out
     by_cases c2:n=1
     ·have HF:Hid (kM (s.data.toList.drop d) most kind a d n=⟨kind,a,d+n,[],aq ((s.data.toList.drop d).take n)⟩):=by
       have:cj ((s.data.toList.drop d).take n) most=true:=by rw [yZ.out];simp [c2];omega
       unfold kM;rw [this];rfl
      have VZ:n < 2:=by omega
      clear c2 hh c0
      go_wp2_with (first
       | (go_at_call_of 136 (Value.int IntKind.i64 (j:Int));refine (hbk _).mono ?_;rintro e w' ⟨rfl,rfl⟩)
       | (go_at_call_of 136 (Value.int IntKind.i64 (d:Int));refine (gZ _).mono ?_;rintro e w' ⟨rfl,rfl⟩)
       | (go_at_call 139;refine (lN _).mono ?_;rintro e w' ⟨rfl,rfl⟩)
       | (go_at_call 148;refine (S9 _).mono ?_;rintro e w' ⟨rfl,rfl⟩))
      refine bodyPost_ret (v:=.agg #[.int .i64 kind,.int .i64 a,.int .i64 j,.string ⟨#[]⟩,.int .i64 (aq ((s.data.toList.drop d).take n))]) (by simp [results,Tryz.results140,go_sem]) rfl ⟨?_,(Below.refl _ _).alloc (Nat.le_refl _) _⟩
      rw [HF.out,PH.out];rfl
     ·cases e0:(bA s d == 48) with
      | true =>
       have b48:(((bA s d).toNat:Int) == 48)=true:=by rw [WA.out];exact e0
       have HF:Hid (kM (s.data.toList.drop d) most kind a d n=⟨1,a,d+n,[],0⟩):=by
        have h48:bA s d=48:=by simpa using e0
        have:cj ((s.data.toList.drop d).take n) most=false:=by rw [yZ.out,hh,h48];simp [c2]
        unfold kM;rw [this];rfl
       have VZ:1 < n:=by omega
       clear c2 hh c0 e0
       go_wp2_with (first
        | (go_at_call_of 136 (Value.int IntKind.i64 (j:Int));refine (hbk _).mono ?_;rintro e w' ⟨rfl,rfl⟩)
        | (go_at_call_of 136 (Value.int IntKind.i64 (d:Int));refine (gZ _).mono ?_;rintro e w' ⟨rfl,rfl⟩)
        | (go_at_call 139;refine (lN _).mono ?_;rintro e w' ⟨rfl,rfl⟩)
        | (go_at_call 148;refine (S9 _).mono ?_;rintro e w' ⟨rfl,rfl⟩))
       refine bodyPost_ret (v:=.agg #[.int .i64 1,.int .i64 a,.int .i64 j,.string ⟨#[]⟩,.int .i64 0]) (by simp [results,Tryz.results140,go_sem]) rfl ⟨?_,(Below.refl _ _).alloc (Nat.le_refl _) _⟩
       rw [HF.out,PH.out];rfl
      | false =>
       have b48:(((bA s d).toNat:Int) == 48)=false:=by rw [WA.out];exact e0
       have HF:Hid (kM (s.data.toList.drop d) most kind a d n=⟨kind,a,d+n,[],aq ((s.data.toList.drop d).take n)⟩):=by
        have h48:bA s d≠48:=by simpa using e0
        have:cj ((s.data.toList.drop d).take n) most=true:=by rw [yZ.out,hh];simp [h48,cm];omega
        unfold kM;rw [this];rfl
       have VZ:1 < n:=by omega
       clear c2 hh c0 e0
       go_wp2_with (first
        | (go_at_call_of 136 (Value.int IntKind.i64 (j:Int));refine (hbk _).mono ?_;rintro e w' ⟨rfl,rfl⟩)
        | (go_at_call_of 136 (Value.int IntKind.i64 (d:Int));refine (gZ _).mono ?_;rintro e w' ⟨rfl,rfl⟩)
        | (go_at_call 139;refine (lN _).mono ?_;rintro e w' ⟨rfl,rfl⟩)
        | (go_at_call 148;refine (S9 _).mono ?_;rintro e w' ⟨rfl,rfl⟩))
       refine bodyPost_ret (v:=.agg #[.int .i64 kind,.int .i64 a,.int .i64 j,.string ⟨#[]⟩,.int .i64 (aq ((s.data.toList.drop d).take n))]) (by simp [results,Tryz.results140,go_sem]) rfl ⟨?_,(Below.refl _ _).alloc (Nat.le_refl _) _⟩
       rw [HF.out,PH.out];rfl
    ·have HF:Hid (kM (s.data.toList.drop d) most kind a d n=⟨1,a,d+n,[],0⟩):=by
      have:cj ((s.data.toList.drop d).take n) most=false:=by rw [yZ.out];simp [cm]
      unfold kM;rw [this];rfl
     have VZ:1 < n:=by omega
     clear hh c0
     go_wp2_with (first
      | (go_at_call_of 136 (Value.int IntKind.i64 (j:Int));refine (hbk _).mono ?_;rintro e w' ⟨rfl,rfl⟩)
      | (go_at_call_of 136 (Value.int IntKind.i64 (d:Int));refine (gZ _).mono ?_;rintro e w' ⟨rfl,rfl⟩)
      | (go_at_call 139;refine (lN _).mono ?_;rintro e w' ⟨rfl,rfl⟩)
      | (go_at_call 148;refine (S9 _).mono ?_;rintro e w' ⟨rfl,rfl⟩))
     refine bodyPost_ret (v:=.agg #[.int .i64 1,.int .i64 a,.int .i64 j,.string ⟨#[]⟩,.int .i64 0]) (by simp [results,Tryz.results140,go_sem]) rfl ⟨?_,(Below.refl _ _).alloc (Nat.le_refl _) _⟩
     rw [HF.out,PH.out];rfl
end Go.Proofs.YtpicaknklgccoabGreatDoor
