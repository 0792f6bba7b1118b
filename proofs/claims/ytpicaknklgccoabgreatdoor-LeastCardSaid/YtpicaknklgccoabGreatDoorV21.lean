import Derived.Test.YtpicaknklgccoabGreatDoorV20
import Derived.Lib.SlBytesRow
import Derived.Lib.BufferRead
set_option maxHeartbeats 4000000
set_option maxRecDepth 100000
namespace Go.Proofs.YtpicaknklgccoabGreatDoor
open Go.Lib (decDigits)
theorem dG (n:Nat) (h:n<256):(UInt8.ofNat n).toNat=n:=by simp;omega
theorem iP (u:Nat):ak (decDigits u)=u:=by
 induction u using Nat.strongRecOn with
 | _ u ih =>
  rw[decDigits]
  split
  ·rename_i h
   have e:(UInt8.ofNat (48+u)).toNat=48+u:=dG _ (by omega)
   have hne:UInt8.ofNat (48+u)≠35:=by intro hc;rw[hc] at e;simp at e;omega
   simp only[ak,List.foldl_cons,List.foldl_nil,if_neg hne,e];omega
  ·rename_i h
   have e:(UInt8.ofNat (48+u % 10)).toNat=48+u % 10:=dG _ (by omega)
   have hne:UInt8.ofNat (48+u % 10)≠35:=by intro hc;rw[hc] at e;simp at e;omega
   rw[vT,if_neg hne,ih _ (by omega),e];omega
theorem Hq (u:Nat):decDigits u≠[]:=by rw[decDigits];split <;> simp
theorem NN (u:Nat) (h:0<u):(decDigits u).head?≠some 48:=by
 induction u using Nat.strongRecOn with
 | _ u ih =>
  rw[decDigits]
  split
  ·rename_i h1
   have e:(UInt8.ofNat (48+u)).toNat=48+u:=dG _ (by omega);intro hc;simp only[List.head?_cons,Option.some.injEq] at hc;rw[hc] at e;simp at e;omega
  ·rename_i h1
   have:=ih (u / 10) (by omega) (by omega)
   cases hd:decDigits (u / 10) with
   | nil=>exact absurd hd (Hq _)
   | cons a r=>rw[hd] at this;simpa using this
theorem lS (u m:Nat) (h:(decDigits u).length<=m):yh (decDigits u) m:=by
 refine⟨λc hc=>?_,?_⟩
 ·have:=K1 u c hc
  unfold CA at this;simp only[Bool.and_eq_true,decide_eq_true_eq] at this;unfold ll;simp only[Bool.and_eq_true,decide_eq_true_eq];omega
 ·unfold cL
  have hp:0<(decDigits u).length:=List.length_pos_iff.2 (Hq u)
  have hl:(decDigits u).length=1\/(decDigits u).head?≠some 48:=by
   rcases Nat.eq_zero_or_pos u with rfl | hu
   ·left;rw[decDigits];simp
   ·exact Or.inr (NN u hu)
  simp only[Bool.and_eq_true,Bool.or_eq_true,decide_eq_true_eq,bne_iff_ne];exact⟨⟨hp,h⟩,hl⟩
theorem iq (u:Nat) (h:u<=99):(decDigits u).length<=2:=by
 rw[decDigits];split
 ·simp
 ·rw[decDigits];split
  ·simp
  ·omega
theorem El (u:Nat) (h:u<=999):(decDigits u).length<=3:=by
 rw[decDigits];split
 ·simp
 ·rw[decDigits];split
  ·simp
  ·rw[decDigits];split
   ·simp
   ·omega
def aE (n:Nat):List UInt8:=[UInt8.ofNat (97+n / 26 % 26),UInt8.ofNat (97+n % 26),118]
theorem Bn {a b:Nat} (ha:a<676) (hb:b<676) (h:aE a=aE b):a=b:=by
 simp only[aE,List.cons.injEq,and_true] at h;have h1:=congrArg UInt8.toNat h.1;have h2:=congrArg UInt8.toNat h.2;rw[dG _ (by omega),dG _ (by omega)] at h1 h2;omega
theorem jZ (n:Nat):Bf (aE n):=by
 refine⟨by simp[aE],λc hc=>?_,by simp[aE],?_⟩
 ·simp only[aE,List.mem_cons,List.not_mem_nil,or_false] at hc
  have e1:(UInt8.ofNat (97+n / 26 % 26)).toNat=97+n / 26 % 26:=dG _ (by omega);have e2:(UInt8.ofNat (97+n % 26)).toNat=97+n % 26:=dG _ (by omega);unfold ll;simp only[Bool.and_eq_true,decide_eq_true_eq]
  rcases hc with rfl | rfl | rfl
  ·omega
  ·omega
  ·decide
 ·cases h:wB (aE n) with
  | none=>rfl
  | some k =>
   have:=uV h
   cases k <;> simp[aE,Kw.bytes] at this
def cQ (k:Kw) (n:Nat):List UInt8:=if k=.aP\/k=.loop then aE n else []
def KE.pt (rg:List UInt8):KE->PT
 | .num n=>.num 0 (decDigits n)
 | .var n=>.name 0 (aE n)
 | .n1 k a=>.node 0 k [] [] [a.pt rg]
 | .n2 k n a b=>.node 0 k (cQ k n) (if k=.pair then rg else []) [a.pt rg,b.pt rg]
 | .n3 k n a b c=>.node 0 k (cQ k n) [] [a.pt rg,b.pt rg,c.pt rg]
theorem wi (rg:List UInt8):∀ x:KE,(x.pt rg).np=x.pt rg
 | .num _=>rfl
 | .var _=>rfl
 | .n1 _ a=>by simp only[KE.pt,PT.np,dN,wi rg a]
 | .n2 _ _ a b=>by simp only[KE.pt,PT.np,dN,wi rg a,wi rg b]
 | .n3 _ _ a b c=>by simp only[KE.pt,PT.np,dN,wi rg a,wi rg b,wi rg c]
theorem Hr (rg:List UInt8):∀ {vs:List Nat} {x:KE} {t:Nat},KT vs x t->(x.pt rg).bz=x.bz:=by
 intro vs x t h
 induction h with
 | num _=>rfl
 | var _=>rfl
 | aP _ _ _ _ ha hb=>simp[KE.pt,PT.bz,ic,KE.bz,ha,hb]
 | di _ _ _ ha hb hc=>simp[KE.pt,PT.bz,ic,KE.bz,ha,hb,hc];omega
 | loop _ _ _ _ ha hb hc=>simp[KE.pt,PT.bz,ic,KE.bz,ha,hb,hc];omega
 | pair _ _ _ _ ha hb=>simp[KE.pt,PT.bz,ic,KE.bz,ha,hb];omega
 | fst _ _ _ ha=>simp[KE.pt,PT.bz,ic,KE.bz,ha]
 | snd _ _ _ ha=>simp[KE.pt,PT.bz,ic,KE.bz,ha]
 | two hk _ _ ha hb=>rcases hk with rfl | rfl | rfl <;> simp[KE.pt,PT.bz,ic,KE.bz,ha,hb]
def Rl (ae:Bool) (rg:List UInt8):Prop:=if ae=true then ∃ d,rg=35::d/\yh d 3 else rg=[]
theorem NT {ae:Bool} {rg:List UInt8} (hr:Rl ae rg):∀ {vs:List Nat} {x:KE} {t:Nat},KT vs x t->(x.pt rg).ok ae:=by
 intro vs x t h;unfold Rl at hr
 induction h with
 | num h=>simp only[KE.pt,PT.ok];exact lS _ 4 (Nat.le_trans (iq _ (by omega)) (by omega))
 | var _=>simp only[KE.pt,PT.ok];exact jZ _
 | aP _ _ _ _ ha hb=>simp[KE.pt,PT.ok,pW,cQ,bP,arity,jZ,ha,hb]
 | di _ _ _ ha hb hc=>simp[KE.pt,PT.ok,pW,cQ,bP,arity,ha,hb,hc]
 | loop _ _ _ _ ha hb hc=>simp[KE.pt,PT.ok,pW,cQ,bP,arity,jZ,ha,hb,hc]
 | pair _ _ _ _ ha hb =>
  cases ae with
  | true=>simp[KE.pt,PT.ok,pW,cQ,bP,arity,ha,hb];simpa using hr
  | false=>simp[KE.pt,PT.ok,pW,cQ,bP,arity,ha,hb];simpa using hr
 | fst _ _ _ ha=>simp[KE.pt,PT.ok,pW,bP,arity,ha]
 | snd _ _ _ ha=>simp[KE.pt,PT.ok,pW,bP,arity,ha]
 | two hk _ _ ha hb=>rcases hk with rfl | rfl | rfl <;> simp[KE.pt,PT.ok,pW,cQ,bP,arity,ha,hb]
theorem CD {rg:List UInt8}:∀ {vs:List Nat} {x:KE} {t:Nat},KT vs x t->(x.pt rg).tidy.length<=x.len+x.bz*(rg.length+1):=by
 intro vs x t h
 induction h with
 | num h=>simp only[KE.pt,PT.tidy,KE.len,KE.bz];exact Nat.le_trans (iq _ (by omega)) (by omega)
 | var _=>simp[KE.pt,PT.tidy,KE.len,KE.bz,aE]
 | aP _ _ _ _ ha hb=>simp[KE.pt,PT.tidy,bT,bh,bF,KE.len,KE.bz,dn,cQ,aE,Kw.bytes,Nat.add_mul];omega
 | di _ _ _ ha hb hc=>simp[KE.pt,PT.tidy,bT,bh,bF,KE.len,KE.bz,dn,cQ,Kw.bytes,Nat.add_mul];omega
 | loop _ _ _ _ ha hb hc=>simp[KE.pt,PT.tidy,bT,bh,bF,KE.len,KE.bz,dn,cQ,aE,Kw.bytes,Nat.add_mul];omega
 | pair _ _ _ _ ha hb =>
  simp only[KE.pt,PT.tidy,bT,bh,bF,KE.len,KE.bz,dn,cQ,Kw.bytes,Nat.add_mul,if_true]
  by_cases hr:rg=[]
  ·subst hr;simp;simp at ha hb;omega
  ·simp[hr];omega
 | fst _ _ _ ha=>simp[KE.pt,PT.tidy,bT,bh,bF,KE.len,KE.bz,dn,Kw.bytes];omega
 | snd _ _ _ ha=>simp[KE.pt,PT.tidy,bT,bh,bF,KE.len,KE.bz,dn,Kw.bytes];omega
 | two hk _ _ ha hb=>rcases hk with rfl | rfl | rfl <;> simp[KE.pt,PT.tidy,bT,bh,bF,KE.len,KE.bz,dn,cQ,Kw.bytes,Nat.add_mul] <;> omega
def tyJ (t:Nat):Ty:=if t=0 then .n else .p 0 .n .n
def sS (t:Nat):Ty:=if t=0 then .n else .p 0 (tyJ (fT t)) (tyJ (sT t))
theorem iv {t:Nat} (ht:t<5) (h0:t≠0):sS t=.p 0 (sS (fT t)) (sS (sT t)):=by
 match t,ht,h0 with
 | 1,_,_=>rfl
 | 2,_,_=>rfl
 | 3,_,_=>rfl
 | 4,_,_=>rfl
theorem p9 (t:Nat):(sS t).size<=3:=by
 have hj:∀ t,(tyJ t).size<=1:=λt=>by unfold tyJ;split <;> simp[Ty.size]
 unfold sS
 split
 ·simp[Ty.size]
 ·have:=hj (fT t);have:=hj (sT t);simp only[Ty.size];omega
theorem fw (env:aV) (nm s:List UInt8) (T:Ty):look (env++[(nm,T)]) s=if nm=s then some T else look env s:=by
 unfold look;rw[List.reverse_append,List.reverse_singleton,List.singleton_append,List.find?_cons]
 by_cases h:nm=s
 ·subst h;simp
 ·have:(nm==s)=false:=by rw[beq_eq_false_iff_ne];exact h
  simp only[this,if_neg h]
theorem Em (env:ep) (nm s:List UInt8) (v:Vl):oK (env++[(nm,v)]) s=if nm=s then v else oK env s:=by
 unfold oK;rw[List.reverse_append,List.reverse_singleton,List.singleton_append,List.find?_cons]
 by_cases h:nm=s
 ·subst h;simp
 ·have:(nm==s)=false:=by rw[beq_eq_false_iff_ne];exact h
  simp only[this,if_neg h]
def wL (vs:List Nat):aV:=vs.mapIdx (λi t=>(aE i,sS t))
def cP (vs:List Vl):ep:=vs.mapIdx (λi v=>(aE i,v))
theorem iQ (vs:List Nat) (t:Nat):wL (vs++[t])=wL vs++[(aE vs.length,sS t)]:=by unfold wL;rw[List.mapIdx_concat]
theorem lA (vs:List Vl) (v:Vl):cP (vs++[v])=cP vs++[(aE vs.length,v)]:=by unfold cP;rw[List.mapIdx_concat]
theorem Bo (vs:List Nat) (n t:Nat) (h:vs[n]?=some t) (hl:vs.length<=600):look (wL vs) (aE n)=some (sS t):=by
 have hn:n<vs.length:=by
  rcases Nat.lt_or_ge n vs.length with h1 | h1
  ·exact h1
  ·rw[List.getElem?_eq_none h1] at h;cases h
 have key:∀ k,n<k->k<=vs.length->look (wL (vs.take k)) (aE n)=some (sS t):=by
  intro k
  induction k with
  | zero=>intro h;omega
  | succ k ih =>
   intro h1 h2;rw[List.take_succ_eq_append_getElem (by omega),iQ,fw,List.length_take,Nat.min_eq_left (by omega)]
   by_cases e:k=n
   ·subst e
    rw[if_pos rfl];rw[List.getElem?_eq_getElem (by omega)] at h;simp only[Option.some.injEq] at h;rw[h]
   ·rw[if_neg (λhc=>e (Bn (by omega) (by omega) hc))]
    exact ih (by omega) (by omega)
 have:=key vs.length hn (Nat.le_refl _)
 rwa [List.take_length] at this
theorem La (vs:List Vl) (n:Nat) (hn:n<vs.length) (hl:vs.length<=600):oK (cP vs) (aE n)=vs[n]:=by
 have key:∀ k,n<k->k<=vs.length->oK (cP (vs.take k)) (aE n)=vs[n]:=by
  intro k
  induction k with
  | zero=>intro h;omega
  | succ k ih =>
   intro h1 h2;rw[List.take_succ_eq_append_getElem (by omega),lA,Em,List.length_take,Nat.min_eq_left (by omega)]
   by_cases e:k=n
   ·subst e;rw[if_pos rfl]
   ·rw[if_neg (λhc=>e (Bn (by omega) (by omega) hc))]
    exact ih (by omega) (by omega)
 have:=key vs.length hn (Nat.le_refl _)
 rwa [List.take_length] at this
theorem En {rg:List UInt8}:∀ {vs:List Nat} {x:KE} {t:Nat},KT vs x t->vs.length<=100->WT (wL vs) (x.pt rg) (sS t):=by
 intro vs x t h
 induction h with
 | num _=>intro _;exact .num
 | var h=>intro hl;exact .name (Bo _ _ _ h (by omega))
 | aP _ hl _ _ ha hb=>intro _;simp only[KE.pt];exact .aP (ha (by omega)) (by have:=hb (by simp;omega);rw[iQ] at this;simpa [cQ] using this)
 | di _ _ _ ha hb hc=>intro hl;simp only[KE.pt];exact .di (ha hl) (hb hl) (hc hl)
 | loop hl _ _ _ ha hb hc=>intro _;simp only[KE.pt];exact .loop (ha (by omega)) (hb (by omega)) (by have:=hc (by simp;omega);rw[iQ] at this;simpa [cQ] using this)
 | pair h0 ht _ _ ha hb =>
  intro hl;simp only[KE.pt];have hs:=p9 ‹Nat›;rw[iv ht h0];exact .pair (ha hl) (hb hl) (by rw[<- iv ht h0];have:=p9 ‹Nat›;omega)
 | fst h0 hp _ ha=>intro hl;simp only[KE.pt];have:=ha hl;rw[iv hp h0] at this;exact .fst this
 | snd h0 hp _ ha=>intro hl;simp only[KE.pt];have:=ha hl;rw[iv hp h0] at this;exact .snd this
 | two hk _ _ ha hb=>intro hl;simp only[KE.pt];exact .two hk (ha hl) (hb hl)
open Go.RowKit
theorem Tryz.Lb:Tryz.prog.underlying 82=some (.slice 5):=by kernel_rfl
theorem Tryz.Rm:Tryz.prog.underlying 9=some .string:=by kernel_rfl
theorem Tryz.VM:Tryz.prog.underlying 5=some (.int .u8):=by kernel_rfl
theorem lB (n:Nat) (hn:n<=1000) (w:World):Calls Tryz.prog 25 #[.int .i64 n] w λe w'=>e=.returned (.string (bs (aE n)))/\Below w.heap.size w w':=by
 have hcv:(convert 82 9 (.slice (some ⟨w.heap.size,0,none⟩) 3 3)).run Tryz.prog (w.alloc (.cells #[.int .u8 (97+((n / 26 % 26:Nat):Int)),.int .u8 (97+((n % 26:Nat):Int)),.int .u8 118] 5 (0,0)))=.ok (.string (bs (aE n))) (w.alloc (.cells #[.int .u8 (97+((n / 26 % 26:Nat):Int)),.int .u8 (97+((n % 26:Nat):Int)),.int .u8 118] 5 (0,0))):=by
  refine Lib.run_convert_whole (P:=Tryz.prog) _ _ _ _ Tryz.Lb Tryz.VM Tryz.Rm w.heap.size 0 (bs (aE n)) ?_ 3;intro i hi;have tF:i<3:=hi;have e1:(UInt8.ofNat (97+n / 26 % 26)).toNat=97+n / 26 % 26:=dG _ (by omega);have e2:(UInt8.ofNat (97+n % 26)).toNat=97+n % 26:=dG _ (by omega);rw[aa (aj w _)]
  match i,tF with
  | 0,_ =>
   show some (Value.int .u8 (97+((n / 26 % 26:Nat):Int)))=some (Value.int .u8 ((UInt8.ofNat (97+n / 26 % 26)).toNat:Int))
   rw[e1];rfl
  | 1,_ =>
   show some (Value.int .u8 (97+((n % 26:Nat):Int)))=some (Value.int .u8 ((UInt8.ofNat (97+n % 26)).toNat:Int))
   rw[e2];rfl
  | 2,_=>rfl
 obtain⟨a,ha⟩:∃ a,a=n / 26 % 26:=⟨_,rfl⟩;obtain⟨b,hb⟩:∃ b,b=n % 26:=⟨_,rfl⟩
 have hal:a<26:=by omega
 have hbl:b<26:=by omega
 have e1:(n:Int) / 26 % 26=(a:Int):=by omega
 have e2:(n:Int) % 26=(b:Int):=by omega
 rw[<- ha,<- hb] at hcv;clear ha hb
 go_enter Tryz.func25,Tryz.ntmps25
 go_wp2
 go_ret
 exact⟨rfl,bg (Below.refl _ _) _⟩
def cN (pre:List UInt8) (k:Kw) (nm:List UInt8) (ts:List (List UInt8)) (j:Nat):List UInt8:=pre++bh k nm 0 (ts.take j)
theorem vA (pre:List UInt8) (k:Kw) (nm:List UInt8) (ts:List (List UInt8)) (j:Nat) (x:List UInt8) (hx:ts[j]?=some x):cN pre k nm ts (j+1)=cN pre k nm ts j++bF k nm j x:=by
 have hj:j<ts.length:=by
  rcases Nat.lt_or_ge j ts.length with h | h
  ·exact h
  ·rw[List.getElem?_eq_none h] at hx;cases hx
 unfold cN;rw[List.take_add_one,hx,Option.toList_some,sK,List.length_take,Nat.min_eq_left (by omega),Nat.zero_add,List.append_assoc]
theorem Bp (k:Kw) (nm:List UInt8):∀ (a b:List (List UInt8)) (i:Nat),bh k nm i (a++b)=bh k nm i a++bh k nm (i+a.length) b
 | [],b,i=>by simp[bh]
 | x::r,b,i=>by
  simp only[List.cons_append,bh,Bp k nm r b (i+1),List.append_assoc,List.length_cons];rw[show i+1+r.length=i+(r.length+1) by omega]
theorem CE (pre:List UInt8) (k:Kw) (nm:List UInt8) (ts:List (List UInt8)) (j:Nat):(cN pre k nm ts j).length<=pre.length+(bh k nm 0 ts).length:=by
 unfold cN
 have h:bh k nm 0 ts=bh k nm 0 (ts.take j)++bh k nm (0+(ts.take j).length) (ts.drop j):=by rw[<- Bp,List.take_append_drop]
 rw[h];simp
theorem qR (k:Kw) (nm:List UInt8):∀ (ts:List (List UInt8)) (i:Nat) (x:List UInt8),x∈ts->x.length+1<=(bh k nm i ts).length
 | [],_,_,h=>by simp at h
 | t::r,i,x,h=>by
  simp only[bh,List.length_append]
  rcases List.mem_cons.1 h with h | h
  ·subst h;unfold bF;simp;try omega
  ·have:=qR k nm r (i+1) x h;omega
def Eo (rg:List UInt8) (x:KE):Prop:=∀ (p:Nat) (w:World),eD w x p->(x.pt rg).tidy.length<=100000->(∀ W,Below w.heap.size w W->pP W) ->
 Calls Tryz.prog 11 #[.pointer (some ⟨p,0,none⟩),.string (bs (dn rg))] w λe w'=>e=.returned (.string (bs (x.pt rg).tidy))/\Below w.heap.size w w'
theorem NU (rg:List UInt8) (n:Nat) (hn:n<=9999):Eo rg (.num n):=by
 intro p w hx _ hit;have hx':w.heap[p]?=some (.cells (pF [] n (.slice none 0 0)) 59 (0,0)):=hx;have hp:=af hx'
 have x0:w.cell? ⟨p,0,none⟩=some (.string ⟨#[]⟩):=by rw[aa hx'];rfl
 have x1:w.cell? ⟨p,1,none⟩=some (.int .i64 n):=by rw[aa hx'];rfl
 have hi:=hit w (Below.refl _ _) n w hn (Below.refl _ _);have HI:Hid _:=hi;simp only[KE.pt,PT.tidy];clear hx hx' hi hit
 go_enter Tryz.func11,Tryz.ntmps11
 go_wp2_with fail
 refine Calls.mono HI.out ?_;rintro _ w2 ⟨rfl,hb⟩
 go_wp2
 go_ret
 exact⟨rfl,hb⟩
theorem NV (rg:List UInt8) (n:Nat) (hn:n<=1000):Eo rg (.var n):=by
 intro p w hx _ _;have hx':w.heap[p]?=some (.cells (pF [120] n (.slice none 0 0)) 59 (0,0)):=hx;have hp:=af hx'
 have x0:w.cell? ⟨p,0,none⟩=some (.string ⟨#[120]⟩):=by rw[aa hx'];rfl
 have x1:w.cell? ⟨p,1,none⟩=some (.int .i64 n):=by rw[aa hx'];rfl
 have HI:Hid _:=lB n hn w;simp only[KE.pt,PT.tidy];clear hx hx'
 go_enter Tryz.func11,Tryz.ntmps11
 go_wp2_with fail
 refine Calls.mono HI.out ?_;rintro _ w2 ⟨rfl,hb⟩
 go_wp2
 go_ret
 exact⟨rfl,hb⟩
theorem fR (k:Kw) (n:Nat):∀ (l:List (List UInt8)) (i:Nat),bh k (cQ k n) i l=bh k (aE n) i l
 | [],_=>rfl
 | x::r,i=>by
  simp only[bh];rw[fR k n r (i+1)]
  congr 1
  unfold bF
  split
  ·rename_i h
   unfold cQ;rw[if_pos (h.elim (λh=>Or.inl h.1) (λh=>Or.inr h.1))]
  ·rfl
def Bq (w:World) (p:Nat) (k:Kw) (n:Nat) (ks:List KE):Prop:=∃ c:Nat,c<w.heap.size/\w.heap[p]?=some (.cells (pF k.bytes n (.slice (some ⟨c,0,none⟩) ks.length ks.length)) 59 (0,0))/\∀ (j:Nat) (y:KE),ks[j]?=some y->∃ q:Nat,w.cell? ⟨c,j,none⟩=some (.pointer (some ⟨q,0,none⟩))/\eD w y q
theorem vB {w:World} {p:Nat} {k:Kw} {a:KE} (h:eD w (.n1 k a) p):Bq w p k 0 [a]:=by
 obtain⟨c,pa,h1,h2,h3⟩:=h;refine⟨c,af h2,h1,λj y hj=>?_⟩
 match j,hj with
 | 0,hj=>simp at hj;subst hj;exact⟨pa,by rw[aa h2];rfl,h3⟩
 | j+1,hj=>simp at hj
theorem ou {w:World} {p:Nat} {k:Kw} {n:Nat} {a b:KE} (h:eD w (.n2 k n a b) p):Bq w p k n [a,b]:=by
 obtain⟨c,pa,pb,h1,h2,h3,h4⟩:=h;refine⟨c,af h2,h1,λj y hj=>?_⟩
 match j,hj with
 | 0,hj=>simp at hj;subst hj;exact⟨pa,by rw[aa h2];rfl,h3⟩
 | 1,hj=>simp at hj;subst hj;exact⟨pb,by rw[aa h2];rfl,h4⟩
 | j+2,hj=>simp at hj
theorem vC {w:World} {p:Nat} {k:Kw} {n:Nat} {a b d:KE} (h:eD w (.n3 k n a b d) p):Bq w p k n [a,b,d]:=by
 obtain⟨c,pa,pb,pd,h1,h2,h3,h4,h5⟩:=h;refine⟨c,af h2,h1,λj y hj=>?_⟩
 match j,hj with
 | 0,hj=>simp at hj;subst hj;exact⟨pa,by rw[aa h2];rfl,h3⟩
 | 1,hj=>simp at hj;subst hj;exact⟨pb,by rw[aa h2];rfl,h4⟩
 | 2,hj=>simp at hj;subst hj;exact⟨pd,by rw[aa h2];rfl,h5⟩
 | j+3,hj=>simp at hj
theorem j0 (rg:List UInt8) (x:KE) (k:Kw) (n:Nat) (ks:List KE) (hkn:k≠.new) (hn:n<=1000)
  (JG:(x.pt rg).tidy=40::(k.bytes++((if k=.pair then dn rg else [])++(bh k (aE n) 0 (ks.map (λy=>(y.pt rg).tidy))++[41]))))
  (hin:∀ w p,eD w x p->Bq w p k n ks) (qQ:ks.length<=3) (ih:∀ y∈ks,Eo rg y):Eo rg x:=by
 intro p w hx hlen hit;obtain⟨c,hc,hb,yC⟩:=hin w p hx;have hp:=af hb
 have x0:w.cell? ⟨p,0,none⟩=some (.string (bs k.bytes)):=by rw[aa hb];rfl
 have x1:w.cell? ⟨p,1,none⟩=some (.int .i64 n):=by rw[aa hb];rfl
 have x2:w.cell? ⟨p,2,none⟩=some (.slice (some ⟨c,0,none⟩) ks.length ks.length):=by rw[aa hb];rfl
 have h1:((bs k.bytes).toList==[])=false:=by rw[aM];cases k <;> decide
 have h2:((bs k.bytes).toList==[120])=false:=by rw[aM];cases k <;> decide
 obtain⟨bp,Y6⟩:∃ bp,((bs k.bytes).toList==[112,97,105,114])=bp:=⟨_,rfl⟩;obtain⟨bl,hl⟩:∃ bl,((bs k.bytes).toList==[108,101,116])=bl:=⟨_,rfl⟩;obtain⟨bo,ho⟩:∃ bo,((bs k.bytes).toList==[108,111,111,112])=bo:=⟨_,rfl⟩
 have hP:bp=decide (k=.pair):=by rw[<- Y6,aM];cases k <;> decide
 have hL:bl=decide (k=.aP):=by rw[<- hl,aM];cases k <;> decide
 have hO:bo=decide (k=.loop):=by rw[<- ho,aM];cases k <;> decide
 have Gu:¬ (bl=true/\bo=true):=by rw[hL,hO];cases k <;> simp
 obtain⟨ts,hts⟩:∃ ts,ts=ks.map (λy=>(y.pt rg).tidy):=⟨_,rfl⟩
 have htl:ts.length=ks.length:=by rw[hts];simp
 obtain⟨pre,hpre⟩:∃ pre,pre=40::(k.bytes++(if k=.pair then dn rg else [])):=⟨_,rfl⟩;rw[<- hts] at JG
 have hfin:cN pre k (aE n) ts ks.length++[41]=(x.pt rg).tidy:=by
  rw[JG,hpre];unfold cN;rw[<- htl,List.take_length];simp
 have yD:pre.length+(bh k (aE n) 0 ts).length+1=(x.pt rg).tidy.length:=by rw[JG,hpre];simp;omega
 have yE:=λj=>CE pre k (aE n) ts j
 have hall:∀ j,(hj:j<ks.length)->∀ w',Below w.heap.size w w'->∃ (q:Nat) (tx:List UInt8),w'.cell? ⟨c,j,none⟩=some (.pointer (some ⟨q,0,none⟩))/\ts[j]?=some tx/\tx.length<=100000 /\
   Calls Tryz.prog 11 #[.pointer (some ⟨q,0,none⟩),.string (bs (dn rg))] w' (λe w''=>e=.returned (.string (bs tx))/\Below w'.heap.size w' w''):=by
  intro j hj w' hw';obtain⟨q,hq,hy⟩:=yC j ks[j] (List.getElem?_eq_getElem hj)
  have kZ:ts[j]?=some (ks[j].pt rg).tidy:=by rw[hts,List.getElem?_map,List.getElem?_eq_getElem hj];rfl
  have hm:=qR k (aE n) ts 0 _ (List.mem_of_getElem? kZ);exact⟨q,_,(hw'.cell (p:=⟨c,j,none⟩) hc).trans hq,kZ,by omega,ih ks[j] (List.getElem_mem hj) q w' (hy.below hw') (by omega) (λW hW=>hit W (hw'.trans (hW.mono hw'.size)))⟩
 have hnm:=λW=>lB n hn W
 have hkb:k.bytes.length<=4:=by cases k <;> decide
 have hrl:(dn rg).length<=100000\/k≠.pair:=by
  by_cases h:k=.pair
  ·left;rw[hpre,if_pos h] at yD;simp at yD;omega
  ·exact Or.inr h
 have hz:∀ j,(bs (cN pre k (aE n) ts j)).size<=100000:=λj=>by rw[bE];have:=yE j;omega
 have yF:Hid _:=hall;have MD:Hid _:=hnm;have yG:Hid _:=hfin;have HL:Hid _:=hL;have HO:Hid _:=hO;have HZ:Hid _:=hz;have z1:(ByteArray.mk #[40]).size=1:=rfl
 have z2:(bs k.bytes).size<=4:=by rw[bE];exact hkb
 have z3:(bs (aE n)).size=3:=rfl
 have zR:bp=true->(bs (dn rg)).size<=100000:=by
  intro h;rw[bE];rw[hP,decide_eq_true_eq] at h
  rcases hrl with h1 | h1
  ·exact h1
  ·exact absurd h h1
 have e0:bp=true->ByteArray.mk #[40]++bs k.bytes++bs (dn rg)=bs (cN pre k (aE n) ts 0):=by
  intro h;rw[hP,decide_eq_true_eq] at h;rw[show ByteArray.mk #[40]=bs [40] from rfl,bD,bD,hpre,if_pos h];simp[cN,bh]
 have e1:bp=false->ByteArray.mk #[40]++bs k.bytes=bs (cN pre k (aE n) ts 0):=by
  intro h;rw[hP,decide_eq_false_iff_not] at h;rw[show ByteArray.mk #[40]=bs [40] from rfl,bD,hpre,if_neg h];simp[cN,bh]
 have zS:(ByteArray.mk #[40]++bs k.bytes).size<=5:=by rw[ByteArray.size_append];omega
 have E0:Hid _:=e0;have E1:Hid _:=e1;have ZR:Hid _:=zR;clear hall hx yC ih hit hL hO hP JG hin hfin hpre hts yE hnm hz e0 e1 zR hb hrl hlen yD hkb
 go_enter Tryz.func11,Tryz.ntmps11
 cases bp
 all_goals
  first
  | (have Y7:Hid _:=E1.out rfl)
  | (have Y7:Hid _:=E0.out rfl)
  first
  | (have zR:=ZR.out rfl)
  | skip
  clear E0 E1 ZR
  go_wp2_with fail
  go_loopw [5,6] (λv i wr=>∃ j:Nat,j<=ks.length/\i=.int .i64 j/\v=.string (bs (cN pre k (aE n) ts j))/\Below w.heap.size w wr) (λ_ i _=>ks.length-(intOf i).toNat)
  case atStart=>exact⟨0,by omega,rfl,by rw[<- Y7.out],Below.refl _ _⟩
  case round =>
   obtain⟨j,hj,rfl,rfl,hbel⟩:=hrel;have hsz:=hbel.size;have q0:wr.cell? ⟨p,0,none⟩=some (.string (bs k.bytes)):=(hbel.cell (p:=⟨p,0,none⟩) hp).trans x0;have q1:wr.cell? ⟨p,1,none⟩=some (.int .i64 n):=(hbel.cell (p:=⟨p,1,none⟩) hp).trans x1;have q2:wr.cell? ⟨p,2,none⟩=some (.slice (some ⟨c,0,none⟩) ks.length ks.length):=(hbel.cell (p:=⟨p,2,none⟩) hp).trans x2
   have jN:p<wr.heap.size:=by omega
   have KG:c<wr.heap.size:=by omega
   have zA:=HZ.out j;have z4:(ByteArray.mk #[32]).size=1:=rfl;have z5:(ByteArray.mk #[41]).size=1:=rfl;have HB:Hid _:=hbel
   by_cases hlt:j<ks.length
   ·have iL:∀ tx,ts[j]?=some tx->cN pre k (aE n) ts (j+1)=cN pre k (aE n) ts j++bF k (aE n) j tx:=λtx kZ=>vA pre k (aE n) ts j tx kZ
    have nf:Hid _:=iL
    have zB:(bs (cN pre k (aE n) ts j)++ByteArray.mk #[32]).size<=100001:=by rw[ByteArray.size_append];omega
    have zC:(bs (cN pre k (aE n) ts j)++ByteArray.mk #[32]++bs (aE n)).size<=100004:=by rw[ByteArray.size_append];omega
    have zD:(bs (cN pre k (aE n) ts j)++ByteArray.mk #[32]++bs (aE n)++ByteArray.mk #[32]).size<=100005:=by rw[ByteArray.size_append];omega
    have eN:((bl=true/\j=0)\/(bo=true/\j=1))->∀ tx,ts[j]?=some tx->bs (cN pre k (aE n) ts j)++ByteArray.mk #[32]++bs (aE n)++ByteArray.mk #[32]++bs tx=bs (cN pre k (aE n) ts (j+1)):=by
     intro mL tx kZ;rw[HL.out,HO.out,decide_eq_true_eq,decide_eq_true_eq] at mL;rw[nf.out tx kZ,show ByteArray.mk #[32]=bs [32] from rfl,bD,bD,bD,bD];unfold bF;rw[if_pos mL];simp
    have eP:¬ ((bl=true/\j=0)\/(bo=true/\j=1))->∀ tx,ts[j]?=some tx->bs (cN pre k (aE n) ts j)++ByteArray.mk #[32]++bs tx=bs (cN pre k (aE n) ts (j+1)):=by
     intro mL tx kZ;rw[HL.out,HO.out,decide_eq_true_eq,decide_eq_true_eq] at mL;rw[nf.out tx kZ,show ByteArray.mk #[32]=bs [32] from rfl,bD,bD];unfold bF;rw[if_neg mL];simp
    have EN:Hid _:=eN;have EP:Hid _:=eP;clear eN eP iL hbel
    by_cases mL:(bl=true/\j=0)\/(bo=true/\j=1)
    ·have CF:Hid _:=EN.out mL
     clear EN EP nf HL HO HZ
     have dI:(bl=true/\j=0)\/(bl=false/\bo=true/\j=1):=by
      rcases mL with h | h
      ·exact Or.inl h
      ·right
       refine⟨?_,h⟩
       cases bl with
       | false=>rfl
       | true=>exact absurd ⟨rfl,h.1⟩ Gu
     clear mL Gu
     have Y8:(bl=true/\((j:Int)==0)=true)\/(bl=false/\bo=true/\((j:Int)==1)=true):=by
      rcases dI with ⟨h1,h2⟩ | ⟨h1,h2,h3⟩
      ·exact Or.inl ⟨h1,by rw[h2];rfl⟩
      ·exact Or.inr ⟨h1,h2,by rw[h3];rfl⟩
     clear dI
     rcases Y8 with ⟨rfl,Y9⟩ | ⟨rfl,rfl,Y9⟩
     all_goals
      go_wp2_with fail
      refine Calls.mono (MD.out _) ?_;rintro _ w1 ⟨rfl,hb1⟩;have dZ:Hid _:=HB.out.trans (hb1.mono hsz);have r2:w1.cell? ⟨p,2,none⟩=some (.slice (some ⟨c,0,none⟩) ks.length ks.length):=(dZ.out.cell (p:=⟨p,2,none⟩) hp).trans x2
      have Ze:p<w1.heap.size:=by have:=dZ.out.size;omega
      have Zf:c<w1.heap.size:=by have:=dZ.out.size;omega
      obtain⟨q,tx,hq,kZ,yH,hcall⟩:=yF.out _ hlt w1 dZ.out;have Ep:=CF.out tx kZ
      have zE:(bs tx).size<=100000:=by rw[bE];exact yH
      have HC:Hid _:=hcall;have NW:Hid _:=Ep;clear hcall Ep kZ CF hb1
      go_wp2_with fail
      refine Calls.mono HC.out ?_;rintro _ w2 ⟨rfl,hb2⟩;have eC:Hid _:=dZ.out.trans (hb2.mono dZ.out.size);clear hb2 HC
      go_wp2
      go_roundw
      case rel=>exact⟨j+1,by omega,by go_num,by rw[<- NW.out],eC.out⟩
      case measure=>simp[intOf];omega
    ·have CF:Hid _:=EP.out mL
     clear EN EP nf HL HO HZ;obtain⟨q,tx,hq,kZ,yH,hcall⟩:=yF.out j hlt wr HB.out;have Ep:=CF.out tx kZ
     have zE:(bs tx).size<=100000:=by rw[bE];exact yH
     have HC:Hid _:=hcall;have NW:Hid _:=Ep
     have kJ:¬ (bl=true/\j=0):=λh=>mL (Or.inl h)
     have hno:¬ (bo=true/\j=1):=λh=>mL (Or.inr h)
     clear hcall Ep kZ CF mL
     have TL:j≠0->((j:Int)==0)=false:=λh=>by rw[beq_eq_false_iff_ne];omega
     have TM:j≠1->((j:Int)==1)=false:=λh=>by rw[beq_eq_false_iff_ne];omega
     cases bl <;> cases bo <;> first | exact absurd ⟨rfl,rfl⟩ Gu | skip
     all_goals
      clear Gu
      first
      | (have TQ:j≠0:=λh=>kJ ⟨rfl,h⟩
         have q6:=TL TQ)
      | (have Zg:j≠1:=λh=>hno ⟨rfl,h⟩
         have q6:=TM Zg)
      | skip
      clear kJ hno TL TM
      go_wp2_with fail
      refine Calls.mono HC.out ?_;rintro _ w2 ⟨rfl,hb2⟩;have eC:Hid _:=HB.out.trans (hb2.mono hsz);clear hb2 HC
      go_wp2
      go_roundw
      case rel=>exact⟨j+1,by omega,by go_num,by rw[<- NW.out],eC.out⟩
      case measure=>simp[intOf];omega
   ·have hjk:j=ks.length:=by omega
    subst hjk;clear yF HL HO
    go_wp2_with fail
    go_ret
    refine⟨?_,HB.out⟩;rw[<- yG.out,<- bD];rfl
theorem Vl.Rn (a b:Vl):(Vl.p a b).txt.length=a.txt.length+b.txt.length+3:=by simp only[Vl.txt,List.length_cons,List.length_append,List.length_nil];omega
theorem Vl.xg:∀ {v:Vl} {T:Ty},v.has T->v.txt.length<=7*T.size+4
 | .n k,.n,h=>by
  simp only[Vl.has] at h;simp only[Vl.txt,Ty.size];rw[decDigits];split
  ·simp
  ·rw[decDigits];split
   ·simp
   ·rw[decDigits];split
    ·simp
    ·rw[decDigits];split
     ·simp
     ·omega
 | .p a b,.p _ x y,h=>by
  simp only[Vl.has] at h;have h1:=Vl.xg h.1;have h2:=Vl.xg h.2;rw[Vl.Rn];simp only[Ty.size];omega
 | .n _,.p _ _ _,h=>by simp[Vl.has] at h
 | .p _ _,.n,h=>by simp[Vl.has] at h
structure MV where
 c:Bool
 n:Int
structure MC where
 a:MV
 b:MV
 home:Nat
 gO:Nat
structure MR where
 num:Int
 gO:Nat
 cells:Nat
structure MM where
 steps:Nat
 fault:Nat
 named:List MV
 cells:List MC
 regs:List MR
 opened:Nat
 live:Int
 most:Int
def v0:MV:=⟨false,0⟩
def c0:MC:=⟨v0,v0,0,0⟩
def MM.stop (m:MM) (f:Nat):MM:=if m.fault=0 then { m with fault:=f } else m
def MM.opn (m:MM) (k:Int):MM:={ m with regs:=m.regs++[⟨k,m.opened,0⟩],opened:=m.opened+1 }
def MM.fin (m:MM):MM:=match m.regs.getLast? with
 | none=>m
 | some r=>{ m with live:=m.live-r.cells,regs:=m.regs.dropLast }
def jq (l:List MR) (k:Int):Nat->Nat
 | 0=>0
 | i+1=>if (l[i+1]?).map (·.num)=some k then i+1 else jq l k i
def MM.home (m:MM) (k:Int):Nat:=jq m.regs k (m.regs.length-1)
def MM.bb (m:MM) (k:Int) (a b:MV):MV × MM:=match m.regs[m.home k]? with
 | none=>(v0,m)
 | some r=>(⟨true,m.cells.length⟩,{ m with regs:=m.regs.set (m.home k) { r with cells:=r.cells+1 },cells:=m.cells++[⟨a,b,m.home k,r.gO⟩],live:=m.live+1,most:=if m.most<m.live+1 then m.live+1 else m.most })
def MM.isLive (m:MM) (c:MC):Bool:=match m.regs[c.home]? with
 | some r=>r.gO==c.gO
 | none=>false
def MM.use (m:MM) (v:MV):MC × MM :=
 if v.c=false\/v.n<0\/(m.cells.length:Int)<=v.n then (c0,m)
 else (m.cells.getD v.n.toNat c0,if m.isLive (m.cells.getD v.n.toNat c0)=true then m else m.stop 13)
def MM.name (m:MM) (i:Int) (v:MV):MM:=if 0<=i/\i<m.named.length then { m with named:=m.named.set i.toNat v } else m
def MM.look (m:MM) (i:Int):MV:=if i<0\/(m.named.length:Int)<=i then v0 else m.named.getD i.toNat v0
def bn (fuel:Nat) (m:MM) (f:MM->MV × MM):MV × MM :=
 let m1:=if fuel<=m.steps then m.stop 12 else m
 if m1.fault≠0 then (v0,m1) else f { m1 with steps:=m1.steps+1 }
def cU (i:Int) (f:MM->MV × MM):Nat->MV->MM->MV × MM
 | 0,x,m=>(x,m)
 | k+1,x,m=>if m.fault≠0 then (x,m) else cU i f k (f (m.name i x)).1 (f (m.name i x)).2
def iM (k:Kw) (a b:Int):Int :=
 if k=.add then Int.tmod (a+b) 10000 else if k=.sub then Int.tmod (a+10000-b) 10000 else if a<b then 1 else 0
mutual
def mW (fuel:Nat):PT->Sc->Nat->MM->MV × MM
 | .num _ s,_,_,m=>bn fuel m (λm=>(⟨false,ak s⟩,m))
 | .name _ s,sc,_,m=>bn fuel m (λm=>(m.look (cE sc s),m))
 | .node _ k nm rg kids,sc,base,m =>
  if k=.new then rL fuel (ak rg) kids sc base m
  else bn fuel m (λm =>
   if k=.aP then ud fuel nm kids sc base m
   else if k=.di then Hs fuel kids sc base m
   else if k=.loop then lT fuel nm kids sc base m
   else gu fuel k (ak rg) kids sc base m)
def rL (fuel:Nat) (rg:Int):List PT->Sc->Nat->MM->MV × MM
 | [a],sc,base,m =>
  let x:=mW fuel a sc base (m.opn rg)
  (x.1,x.2.fin)
 | _,_,_,m=>(v0,m)
def ud (fuel:Nat) (nm:List UInt8):List PT->Sc->Nat->MM->MV × MM
 | [a,b],sc,base,m =>
  let x:=mW fuel a sc base m
  mW fuel b (sc++[(nm,((base+a.cnt:Nat):Int)-1)]) (base+a.cnt) (x.2.name (((base+a.cnt:Nat):Int)-1) x.1)
 | _,_,_,m=>(v0,m)
def Hs (fuel:Nat):List PT->Sc->Nat->MM->MV × MM
 | [a,b,c],sc,base,m =>
  let x:=mW fuel a sc base m
  if x.1.n≠0 then mW fuel b sc (base+a.cnt) x.2 else mW fuel c sc (base+a.cnt+b.cnt) x.2
 | _,_,_,m=>(v0,m)
def lT (fuel:Nat) (nm:List UInt8):List PT->Sc->Nat->MM->MV × MM
 | [a,b,c],sc,base,m =>
  let x:=mW fuel a sc base m
  let y:=mW fuel b sc (base+a.cnt) x.2
  cU (((base+a.cnt+b.cnt:Nat):Int)-1) (λm=>mW fuel c (sc++[(nm,((base+a.cnt+b.cnt:Nat):Int)-1)]) (base+a.cnt+b.cnt) m) x.1.n.toNat y.1 y.2
 | _,_,_,m=>(v0,m)
def gu (fuel:Nat) (k:Kw) (rg:Int):List PT->Sc->Nat->MM->MV × MM
 | [a],sc,base,m =>
  let x:=mW fuel a sc base m
  let c:=x.2.use x.1
  (if k=.fst then c.1.a else c.1.b,c.2)
 | [a,b],sc,base,m =>
  let x:=mW fuel a sc base m
  let y:=mW fuel b sc (base+a.cnt) x.2
  if k=.pair then y.2.bb rg x.1 y.1 else (⟨false,iM k x.1.n y.1.n⟩,y.2)
 | _,_,_,m=>(v0,m)
end
def MV.bd (v:MV):Prop:=-30000<=v.n/\v.n<=30000
def kO:List MR->Nat
 | []=>0
 | r::l=>r.cells+kO l
structure oO (fuel:Nat) (m:MM):Prop where
 steps:m.steps<=fuel
 cells:m.cells.length<=m.steps
 live:m.live=kO m.regs
 sum:kO m.regs<=m.cells.length
 most:0<=m.most/\m.most<=m.cells.length
 named:∀ v∈m.named,v.bd
 cell:∀ c∈m.cells,c.a.bd/\c.b.bd/\c.home<=20000/\c.gO<=m.opened
 regs:m.regs.length<=20000
 gO:∀ r∈m.regs,r.gO<=m.opened/\-1<=r.num/\r.num<=9999
theorem ue:v0.bd:=by simp[v0,MV.bd]
theorem MM.JH {fuel:Nat} {m:MM} (h:oO fuel m) (f:Nat):oO fuel (m.stop f):=by
 unfold MM.stop;split
 ·exact⟨h.steps,h.cells,h.live,h.sum,h.most,h.named,h.cell,h.regs,h.gO⟩
 ·exact h
theorem qd (a b:List MR):kO (a++b)=kO a+kO b:=by induction a <;> simp[kO, *];omega
theorem qg:∀ (l:List MR) (i:Nat) (r r':MR),l[i]?=some r->kO (l.set i r')+r.cells=kO l+r'.cells
 | [],i,r,r',h=>by simp at h
 | a::l,0,r,r',h=>by simp at h;subst h;simp[kO];omega
 | a::l,i+1,r,r',h=>by
  have:=qg l i r r' (by simpa using h);simp[kO];omega
theorem MM.Ht {fuel:Nat} {m:MM} (h:oO fuel m) (k:Int) (hk:-1<=k/\k<=9999) (hr:m.regs.length+1<=20000):oO fuel (m.opn k):=by
 refine⟨h.steps,h.cells,?_,?_,h.most,h.named,?_,?_,?_⟩
 ·simp[MM.opn,qd,kO,h.live]
 ·simp[MM.opn,qd,kO];exact h.sum
 ·intro c hc
  have:=h.cell c hc;exact⟨this.1,this.2.1,this.2.2.1,Nat.le_succ_of_le this.2.2.2⟩
 ·simp[MM.opn];omega
 ·intro r hr
  simp only[MM.opn,List.mem_append,List.mem_singleton] at hr
  rcases hr with hr | rfl
  ·have:=h.gO r hr;exact⟨Nat.le_succ_of_le this.1,this.2⟩
  ·exact⟨Nat.le_succ _,hk⟩
theorem MM.VN {fuel:Nat} {m:MM} (h:oO fuel m):oO fuel m.fin:=by
 cases hl:m.regs.getLast? with
 | none=>unfold MM.fin;rw[hl];exact h
 | some r =>
  have ef:m.fin={ m with live:=m.live-r.cells,regs:=m.regs.dropLast }:=by unfold MM.fin;rw[hl]
  rw[ef]
  have e:m.regs.dropLast++[r]=m.regs:=by
   rw[List.getLast?_eq_some_iff] at hl;obtain⟨ys,hy⟩:=hl;rw[hy];simp
  have hs:kO m.regs=kO m.regs.dropLast+r.cells:=by
   conv=>lhs;rw[<- e]
   simp[qd,kO]
  have h1:=h.live;have h2:=h.sum;refine⟨h.steps,h.cells,?_,?_,h.most,h.named,h.cell,?_,?_⟩
  ·show m.live-r.cells=((kO m.regs.dropLast:Nat):Int);rw[h1,hs];omega
  ·show kO m.regs.dropLast<=m.cells.length;omega
  ·show m.regs.dropLast.length<=_;have:=h.regs;simp;omega
  ·intro x hx
   exact h.gO x (by rw[<- e];exact List.mem_append_left _ hx)
theorem MM.Hu {fuel:Nat} {m:MM} (h:oO fuel m) (k:Int) (a b:MV) (ha:a.bd) (hb:b.bd) (hc:m.cells.length<m.steps) (hf:fuel<=20000):oO fuel (m.bb k a b).2/\(m.bb k a b).1.bd:=by
 cases hr:m.regs[m.home k]? with
 | none=>unfold MM.bb;rw[hr];exact⟨h,ue⟩
 | some r =>
  have ef:m.bb k a b=(⟨true,m.cells.length⟩,{ m with regs:=m.regs.set (m.home k) { r with cells:=r.cells+1 },cells:=m.cells++[⟨a,b,m.home k,r.gO⟩],live:=m.live+1,most:=if m.most<m.live+1 then m.live+1 else m.most }):=by unfold MM.bb;rw[hr]
  rw[ef];have h1:=h.live;have h2:=h.sum;have h3:=h.most;have hm:=List.mem_of_getElem? hr;have h4:=qg m.regs (m.home k) r { r with cells:=r.cells+1 } hr;simp only at h4;have hlt:=(List.getElem?_eq_some_iff.1 hr).1;have hst:=h.steps;refine⟨⟨h.steps,?_,?_,?_,?_,h.named,?_,?_,?_⟩,?_⟩
  ·simp;omega
  ·show m.live+1=((kO (m.regs.set (m.home k) { r with cells:=r.cells+1 }):Nat):Int);rw[h1];omega
  ·show kO (m.regs.set (m.home k) { r with cells:=r.cells+1 })<=(m.cells++_).length;simp only[List.length_append,List.length_cons,List.length_nil];omega
  ·show 0<=(if m.most<m.live+1 then m.live+1 else m.most)/\(if m.most<m.live+1 then m.live+1 else m.most)<=((m.cells++_).length:Int)
   simp only[List.length_append,List.length_cons,List.length_nil]
   split <;> omega
  ·intro c hc
   simp only[List.mem_append,List.mem_singleton] at hc
   rcases hc with hc | rfl
   ·exact h.cell c hc
   ·refine⟨ha,hb,?_,(h.gO r hm).1⟩
    have:=h.regs
    show m.home k<=20000
    omega
  ·show (m.regs.set _ _).length<=_;rw[List.length_set];exact h.regs
  ·intro x hx
   rcases List.mem_or_eq_of_mem_set hx with hx | rfl
   ·exact h.gO x hx
   ·exact h.gO r hm
  ·simp only[MV.bd];omega
theorem Er {α:Type} (l:List α) (i:Nat) (d:α) (h:i<l.length):l.getD i d∈l:=by
 rw[List.getD_eq_getElem?_getD,List.getElem?_eq_getElem h];simp
theorem MM.Hv {fuel:Nat} {m:MM} (h:oO fuel m) (v:MV):oO fuel (m.use v).2/\(m.use v).1.a.bd/\(m.use v).1.b.bd:=by
 unfold MM.use
 split
 ·exact⟨h,ue,ue⟩
 ·rename_i hn
  have hlt:v.n.toNat<m.cells.length:=by omega
  have hm:=h.cell _ (Er m.cells v.n.toNat c0 hlt);refine⟨?_,hm.1,hm.2.1⟩;simp only
  split
  ·exact h
  ·exact MM.JH h 13
theorem MM.xh {fuel:Nat} {m:MM} (h:oO fuel m) (i:Int) (v:MV) (hv:v.bd):oO fuel (m.name i v):=by
 unfold MM.name
 split
 ·refine⟨h.steps,h.cells,h.live,h.sum,h.most,?_,h.cell,h.regs,h.gO⟩
  intro x hx
  rcases List.mem_or_eq_of_mem_set hx with hx | rfl
  ·exact h.named x hx
  ·exact hv
 ·exact h
theorem MM.Ro {fuel:Nat} {m:MM} (h:oO fuel m) (i:Int):(m.look i).bd:=by
 unfold MM.look
 split
 ·exact ue
 ·exact h.named _ (Er _ _ _ (by omega))
theorem NX (k:Kw) (a b:Int):(⟨false,iM k a b⟩:MV).bd:=by
 unfold MV.bd iM;simp only;have h1:=Int.tmod_lt_of_pos (a+b) (show (0:Int)<10000 by omega);have h2:=Int.tmod_lt_of_pos (a+10000-b) (show (0:Int)<10000 by omega);have h3:=Int.lt_tmod_of_pos (a+b) (show (0:Int)<10000 by omega);have h4:=Int.lt_tmod_of_pos (a+10000-b) (show (0:Int)<10000 by omega)
 split
 ·omega
 ·split
  ·omega
  ·split <;> omega
end Go.Proofs.YtpicaknklgccoabGreatDoor
