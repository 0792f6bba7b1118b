import Derived.Test.YtpicaknklgccoabGreatDoorV1
import Derived.ArgAppend
import Derived.Laws.Tables
import Derived.BigRegion
import Derived.BigQuiet
import Derived.Deep.QuietTactic
import Derived.Lib.ItoaNum
import Derived.Deep.RegionHeld3
set_option maxHeartbeats 2000000
set_option maxRecDepth 100000
namespace Go.Proofs.YtpicaknklgccoabGreatDoor
open Go.RowKit
theorem aa {w:World} {b:Nat} {arr:Array Value} {t:TypeId} {fr:Nat × Nat} (h:w.heap[b]?=some (.cells arr t fr)) (o:Nat):w.cell? ⟨b,o,none⟩=arr[o]?:=by
 simp[World.cell?,h]
theorem ag {w:World} {b:Nat} {arr:Array Value} {t:TypeId} (h:w.heap[b]?=some (.cells arr t (0,0))) (o:Nat):w.frozen? ⟨b,o,none⟩=false:=by
 simp[World.frozen?,h]
theorem aA {w:World} {b:Nat} {arr:Array Value} {t:TypeId} {fr:Nat × Nat} (h:w.heap[b]?=some (.cells arr t fr)) (o:Nat) (u:Value):(w.setCell ⟨b,o,none⟩ u).heap[b]?=some (.cells (arr.setIfInBounds o u) t fr):=by
 simp[World.setCell,Array.getElem?_modify,h]
theorem aq {w:World} {b:Nat} (a:Addr) (u:Value) (hb:b≠a.block):(w.setCell a u).heap[b]?=w.heap[b]?:=Below.heap_setCell _ _ _ _ hb
theorem af {w:World} {b:Nat} {o:Obj} (h:w.heap[b]?=some o):b<w.heap.size:=by
 rcases Nat.lt_or_ge b w.heap.size with h1 | h1
 ·exact h1
 ·rw[Array.getElem?_eq_none h1] at h;cases h
theorem aR {w:World} {b:Nat} {x:Obj} (o:Obj) (h:w.heap[b]?=some x):(w.alloc o).heap[b]?=some x:=by
 rw[Below.heap_alloc _ _ _ (af h)];exact h
theorem aj (w:World) (o:Obj):(w.alloc o).heap[w.heap.size]?=some o:=by
 show (w.heap.push o)[w.heap.size]?=_;simp
theorem dL {w:World} {base base':Nat} {e:TypeId} {size:Nat} {v:Value} {n:Nat} {xs:List Value} (h:w.ownsRow base e size v n xs) (hb:∀ k,v.ownBlock=some k->base'<=k):w.ownsRow base' e size v n xs:=by
 obtain⟨h1,h2⟩:=h;refine⟨h1,?_⟩
 rcases h2 with h2 | ⟨g,cap,cur,hv,hg,hh,r⟩
 ·exact Or.inl h2
 ·exact Or.inr ⟨g,cap,cur,hv,hb g (by rw[hv];rfl),hh,r⟩
theorem ay {w w':World} {base:Nat} {e:TypeId} {size:Nat} {v:Value} {n:Nat} {xs:List Value} (h:w.ownsRow base e size v n xs) (hb:∀ k,v.ownBlock=some k->w'.heap[k]?=w.heap[k]?):w'.ownsRow base e size v n xs:=by
 obtain⟨h1,h2⟩:=h;refine⟨h1,?_⟩
 rcases h2 with h2 | ⟨g,cap,cur,hv,hg,hh,r⟩
 ·exact Or.inl h2
 ·exact Or.inr ⟨g,cap,cur,hv,hg,by rw[hb g (by rw[hv];rfl)];exact hh,r⟩
theorem qM {P:Program} (w:World) {ops:Array Oper} {rest:List Oper} {o:Oper} {a:Act} {Q:Exit->Act->World->Prop} (hgd:o.guard=none)
  (s x:Operand) (t:TypeId) (ho:o.op=Op.call { callee:=Callee.builtin Builtin.append,args:=#[s,x],argTypes:=#[t,t] }) (e:TypeId) (i:TypeInfo)
  (z:Value) (size bytes:Nat) (ht:P.underlying t=some (TypeDesc.slice e)) (hi:P.info? e=some i) (hz:i.zero=some z) (hsize:i.size=size) (hby:i.bytes=bytes)
  (hzs:z.cells.size=size) (hsz:0<size) (v:Value) (n:Nat) (xs:List Value) (hs:a.eval s=v) (hown:w.ownsRow 0 e size v n xs) (ad:Addr) (m c:Nat) (news:List Value)
  (hx:a.eval x=Value.slice (some ad) m c) (hl:news.length=m*size) (hnews:∀ (j:Nat) (u:Value),news[j]?=some u->w.cell? (ad.add j)=some u)
  (h1:∀ (u:Value),u∈news->u.oneCell'=true) (hm:0<m) (h63:n+m<=maxLen) (hbytes:(n+m)*bytes<=140737488355328)
  (h:∀ (g cap:Nat) (w':World),w'.ownsRow 0 e size (.slice (some ⟨g,0,none⟩) (n+m) cap) (n+m) (xs++news)->w.grownBy w' v.ownBlock ->
   (v.ownBlock=some g\/w.heap.size<=g)->wpList P ops Q rest (a.put o.dst (.slice (some ⟨g,0,none⟩) (n+m) cap)) w') :
  wpList P ops Q (o::rest) a w:=by
 have fin:∀ (v':Value) (w':World),w'.ownsRow w.heap.size e size v' (n+m) (xs++news)->w.grownBy w' none->wpList P ops Q rest (a.put o.dst v') w':=by
  intro v' w' MF hg'
  obtain⟨g,cap,hv'⟩:∃ g cap,v'=.slice (some ⟨g,0,none⟩) (n+m) cap:=by
   rcases MF.2 with ⟨_,hh⟩ | ⟨g,cap,cur,hv,_⟩
   ·omega
   ·exact⟨_,_,hv⟩
  subst hv';have hlt:=MF.lt g rfl;exact h g cap w' (dL MF (λk hk=>Nat.zero_le _)) ⟨hg'.os,hg'.tape,hg'.output,hg'.size,λk hk _=>hg'.block k hk (by simp)⟩ (Or.inr hlt.1)
 rcases hown.2 with ⟨hv,hn⟩ | ⟨g,cap,cur,hv,hg,hh,hn,hcm,hcs,htake⟩
 ·subst hn
  have hxs:xs=[]:=List.length_eq_zero_iff.1 (by have:=hown.1;omega);refine wpList_append_grows w hgd s x t ho e i z size bytes ht hi hz hsize hby hzs hsz none 0 0 xs (by rw[hs,hv]) (λ_=>⟨rfl,rfl⟩) hown.1 (λb hb=>by cases hb) ad m c news hx hl hnews h1 (by omega) h63 hbytes fin
 ·by_cases hroom:n+m<=cap
  ·refine wpList_append_fits w hgd s x t ho 0 e i size ht hi hsize g n cap xs (by rw[hs,hv]) (by rw[hv] at hown;exact hown) ad m c news hx hl hnews h1 hroom ?_
   intro w' MF hg';exact h g cap w' MF (by rw[hv];exact hg') (Or.inl (by rw[hv];rfl))
  ·refine wpList_append_grows w hgd s x t ho e i z size bytes ht hi hz hsize hby hzs hsz (some ⟨g,0,none⟩) n cap xs (by rw[hs,hv]) (λhh=>by cases hh) hown.1 ?_ ad m c news hx hl hnews h1 (by omega) h63 hbytes fin
   intro b hb j u hj;simp only[Option.some.injEq] at hb;subst hb;exact hown.cells (by rw[hv];rfl) j u hj
def ptr (b:Nat):Value:=.pointer (some ⟨b,0,none⟩)
def acQ:List UInt8:=[110,117,109,98,101,114]
def acL:List UInt8:=[110,97,109,101]
def aa6 (op:List UInt8) (p:Nat) (nm:List UInt8) (n:Int) (kids:Value) (id last site:Nat):Array Value :=
 #[.string (bs op),.int .i64 p,.string (bs nm),.int .i64 n,kids,.int .i64 id,.int .i64 last,.int .i64 site]
theorem KY (ts:List PT) (t:PT):ax (ts++[t])=ax ts+t.cnt:=by
 induction ts with
 | nil=>simp[ax]
 | cons a r ih=>simp[ax,ih];omega
theorem jY {P:Program} {ops:Array Oper} {rest:List Oper} {o:Oper} {a:Act} {w:World} {Q:Exit->Act->World->Prop} (hgd:o.guard=none) (ty:TypeId) (x y:Operand) (ho:o.op=.store ty x y)
  (g:Nat) (cells:Array Value) (hx:a.eval x=.pointer (some ⟨g,0,none⟩)) (hy:a.eval y=.agg cells)
  (t:TypeId) (old:Array Value) (hg:w.heap[g]?=some (.cells old t (0,0))) (hi:(P.info? ty).map (·.size)=some cells.size)
  (hold:old.size=cells.size) (h1:cells.all (·.oneCell')=true)
  (h:∀ W:World,W.heap[g]?=some (.cells cells t (0,0))->W.heap.size=w.heap.size->(∀ k,k≠g->W.heap[k]?=w.heap[k]?)->W.os=w.os->W.tape=w.tape->W.output=w.output ->
   wpList P ops Q rest (a.put o.dst undef) W):wpList P ops Q (o::rest) a w:=by
 refine wpList_store_row hgd ty x y ho g cells hx hy t old hg hi hold h1 ?_;exact h _ (setRow_heap w g old cells t (0,0) hg) (by simp) (λk hk=>setRow_other w g k cells hk) rfl rfl rfl
theorem fP {B g:Nat} {w0 w W:World} (hb:Below B w0 w) (hg:B<=g) (hs:W.heap.size=w.heap.size) (ho:∀ k,k≠g->W.heap[k]?=w.heap[k]?) (e1:W.os=w.os) (e2:W.tape=w.tape) (e3:W.output=w.output):Below B w0 W :=
 ⟨e1.trans hb.os,e2.trans hb.tape,e3.trans hb.output,by rw[hs];exact hb.size,λk hk=>by rw[ho k (by omega)];exact hb.block k hk⟩
theorem Tryz.vp:(Tryz.prog.info? 159).map (·.size)=some 5:=by kernel_rfl
theorem vq (T:TN):(#[Value.int .i64 T.kind,.int .i64 T.at_,.int .i64 T.aL,.string (bs T.word),.int .i64 T.num]:Array Value).all (·.oneCell')=true:=by simp[Value.oneCell']
theorem KZ (s:ByteArray) (k:Nat) (hk:k<s.size) (h:eS s[k]=true):gK s.data.toList k=gK s.data.toList (k+1):=by
 unfold gK;rw[ez];exact wC s k hk h
theorem Jy (s:ByteArray) (k:Nat) (hk:k<s.size) (h:eS s[k]=false):gK s.data.toList k=kU s k::gK s.data.toList (k+(aN (s.data.toList.drop k)).1):=by
 unfold gK;rw[ez];exact Aw s k hk h
theorem xb (s:ByteArray) (k:Nat) (hk:s.size<=k):gK s.data.toList k=[]:=by
 unfold gK;rw[ez,show s.size-k=0 from by omega];rfl
theorem Eg (s:ByteArray):∀ (m a:Nat),s.size-a<=m->gK s.data.toList (a+wD (s.data.toList.drop a))=gK s.data.toList a/\(∀ h:a+wD (s.data.toList.drop a)<s.size,eS (s[a+wD (s.data.toList.drop a)])=false):=by
 intro m
 induction m with
 | zero =>
  intro a h
  have:wD (s.data.toList.drop a)=0:=by rw[tI s a (by omega)];rfl
  rw[this];exact⟨rfl,λh'=>by omega⟩
 | succ m ih =>
  intro a h
  by_cases hlt:a<s.size
  ·cases hb:eS s[a] with
   | true =>
    have e:a+wD (s.data.toList.drop a)=(a+1)+wD (s.data.toList.drop (a+1)):=by rw[drop_cons s a hlt];simp[wD,hb];omega
    obtain⟨h1,h2⟩:=ih (a+1) (by omega);refine⟨?_,?_⟩
    ·rw[e,h1,KZ s a hlt hb]
    ·simp only[e];exact h2
   | false =>
    have e:wD (s.data.toList.drop a)=0:=by rw[drop_cons s a hlt];simp[wD,hb]
    refine⟨by rw[e,Nat.add_zero],?_⟩;simp only[e,Nat.add_zero];intro _;exact hb
  ·have:wD (s.data.toList.drop a)=0:=by rw[tI s a (by omega)];rfl
   rw[this];exact⟨rfl,λh'=>by omega⟩
theorem Jz (s:ByteArray) (p:Nat) (hp:p<s.size):iF (kU s p)=⟨bR (aN (s.data.toList.drop p)).2,p,p+(aN (s.data.toList.drop p)).1,vV (kU s p),DE (kU s p)⟩:=by
 unfold iF;rw[DC s p hp];rfl
theorem pZ (s:ByteArray) (p:Nat) (lo hi:Int) (hp:p<s.size) (h:ll lo hi s[p]=false):run lo hi (s.data.toList.drop p)=0:=by
 rw[drop_cons s p hp];simp[run,h]
theorem JA (s:ByteArray) (p:Nat) (lo hi:Int) (hp:p<s.size) (h:ll lo hi s[p]=true):0<run lo hi (s.data.toList.drop p):=by
 rw[drop_cons s p hp];simp[run,h]
theorem K0 (s:ByteArray) (p:Nat) (hp:p<s.size) (hl:ll 97 122 s[p]=false) (hd:ll 48 57 s[p]=false) (Co:s[p]≠35) :
  aN (s.data.toList.drop p)=(1,if s[p]=40 then .opn else if s[p]=41 then .cls else .bad):=by
 unfold aN;rw[pZ s p 97 122 hp hl,pZ s p 48 57 hp hd,if_neg (by omega),if_neg (by omega),drop_cons s p hp];simp only;rw[if_neg Co]
theorem NH (s:ByteArray) (p:Nat) (hp:p<s.size) (hl:ll 97 122 s[p]=false) (hd:ll 48 57 s[p]=false) (Co:s[p]≠35) :
  iF (kU s p)=⟨if s[p]=40 then 2 else if s[p]=41 then 3 else 1,p,p+1,[],0⟩:=by
 have h:=K0 s p hp hl hd Co;rw[Jz s p hp];unfold vV DE kU;rw[h]
 by_cases Ra:s[p]=40
 ·simp[Ra,bR]
 ·by_cases Rb:s[p]=41
  ·simp[Rb,bR]
  ·simp[Ra,Rb,bR]
theorem Rc (s:ByteArray) (p n:Nat) (hp:p<s.size) (hn:n=run 97 122 (s.data.toList.drop p)) (h0:0<n) :
  iF (kU s p)=⟨bR (eQ ((s.data.toList.drop p).take n) n),p,p+n,if n<=8 then (s.data.toList.drop p).take n else [],0⟩:=by
 have h:aN (s.data.toList.drop p)=(n,eQ ((s.data.toList.drop p).take n) n):=by unfold aN;rw[<- hn,if_pos h0]
 have hlen:((s.data.toList.drop p).take n).length=n:=by
  have:=sr 97 122 (s.data.toList.drop p);rw[List.length_take];omega
 rw[Jz s p hp];unfold vV DE kU;rw[h];simp only
 by_cases h8:n<=8
 ·rw[if_pos h8]
  unfold eQ
  cases wB ((s.data.toList.drop p).take n) with
  | some k=>rfl
  | none=>simp[h8]
 ·rw[if_neg h8]
  have:=xG ((s.data.toList.drop p).take n) (by omega);rw[hlen] at this;rw[this]
theorem VD (s:ByteArray) (p n:Nat) (hp:p<s.size) (hl:ll 97 122 s[p]=false) (hn:n=run 48 57 (s.data.toList.drop p)) (h0:0<n) :
  iF (kU s p)=lK (s.data.toList.drop p) 4 5 p p n:=by
 have h:aN (s.data.toList.drop p)=(n,if cL ((s.data.toList.drop p).take n) 4 then .num else .bad):=by
  unfold aN;rw[pZ s p 97 122 hp hl,if_neg (by omega),<- hn,if_pos h0]
 rw[Jz s p hp];unfold vV DE kU lK;rw[h];simp only
 cases cL ((s.data.toList.drop p).take n) 4 with
 | true=>simp[bR]
 | false=>simp[bR]
theorem Eh (l:List UInt8):ak (35::l)=ak l:=by unfold ak;simp
theorem VE (s:ByteArray) (p n:Nat) (hp:p<s.size) (Co:s[p]=35) (hn:n=run 48 57 (s.data.toList.drop (p+1))) :
  iF (kU s p)=lK (s.data.toList.drop (p+1)) 3 6 p (p+1) n:=by
 have hl:ll 97 122 s[p]=false:=by rw[Co];decide
 have hd:ll 48 57 s[p]=false:=by rw[Co];decide
 have h:aN (s.data.toList.drop p)=(n+1,if cL ((s.data.toList.drop (p+1)).take n) 3 then .GH else .bad):=by
  unfold aN;rw[pZ s p 97 122 hp hl,pZ s p 48 57 hp hd,if_neg (by omega),if_neg (by omega),drop_cons s p hp];simp only;rw[if_pos Co,<- hn]
 rw[Jz s p hp];unfold vV DE kU lK;rw[h];simp only
 have ht:(s.data.toList.drop p).take (n+1)=35::(s.data.toList.drop (p+1)).take n:=by rw[drop_cons s p hp,List.take_succ_cons,Co]
 rw[ht]
 cases cL ((s.data.toList.drop (p+1)).take n) 3 with
 | true=>simp[bR,Eh];omega
 | false=>simp[bR];omega
theorem NI (s:ByteArray) (a:Nat) (w:World) (hs:s.size<=9000) (ha:a<=s.size) :
  Calls Tryz.prog 130 #[.string s,.int .i64 a] w λe w'=>e=.returned (jh (fE s.size (gK s.data.toList a)))/\Below w.heap.size w w':=by
 obtain⟨YS,YT⟩:=Eg s s.size a (by omega);have kJ:=MU (s.data.toList.drop a);rw[List.length_drop,ez] at kJ
 have Ei:=λw=>xF s a w hs ha
 rw[<- YS];obtain⟨p,hp⟩:∃ p,p=a+wD (s.data.toList.drop a):=⟨_,rfl⟩
 have hps:p<=s.size:=by omega
 have VF:∀ h:p<s.size,eS s[p]=false:=by subst hp;exact YT
 clear YT;rw[<- hp] at Ei ⊢;clear hp kJ YS
 have hby:=λw=>lJ s p w (by omega)
 by_cases hlt:p<s.size
 ·have hb:=VF hlt
  clear VF
  have htk:fE s.size (gK s.data.toList p)=iF (kU s p):=by rw[Jy s p hlt hb];rfl
  rw[htk];clear htk hb;rw[xE s p hlt] at hby
  have hle:=λw=>tJ s[p] w
  have XJ:=λw=>vX s[p] w
  have TI:((s[p].toNat:Int)==40)=(s[p]==40):=qH s[p] 40;have Rd:((s[p].toNat:Int)==41)=(s[p]==41):=qH s[p] 41;have XK:((s[p].toNat:Int)==35)=(s[p]==35):=qH s[p] 35
  cases hL:ll 97 122 s[p] with
  | true =>
   have d40:((s[p].toNat:Int)==40)=false:=by
    rw[beq_eq_false_iff_ne];unfold ll at hL;simp only[Bool.and_eq_true,decide_eq_true_eq] at hL;omega
   have d41:((s[p].toNat:Int)==41)=false:=by
    rw[beq_eq_false_iff_ne];unfold ll at hL;simp only[Bool.and_eq_true,decide_eq_true_eq] at hL;omega
   obtain⟨n,hn⟩:∃ n,n=run 97 122 (s.data.toList.drop p):=⟨_,rfl⟩
   have h0:0<n:=by rw[hn];exact JA s p 97 122 hlt hL
   have hrl:=sr 97 122 (s.data.toList.drop p);rw[List.length_drop,ez,<- hn] at hrl
   have gr:=λw=>Cb s p n w hs hn (by omega)
   rw[<- Rc s p n hlt hn h0] at gr;rw[hL] at hle;generalize iF (kU s p)=T at gr;unfold jh at gr;clear TI Rd XK hL hn h0 hrl
   go_enter Tryz.func130,Tryz.ntmps130
   go_wp2_with (first
    | (go_at_call 135;refine (Ei _).mono ?_;rintro e w' ⟨rfl,rfl⟩)
    | (go_at_call 136;refine (hby _).mono ?_;rintro e w' ⟨rfl,rfl⟩)
    | (go_at_call 137;refine (hle _).mono ?_;rintro e w' ⟨rfl,rfl⟩)
    | (go_at_call 139;refine (XJ _).mono ?_;rintro e w' ⟨rfl,rfl⟩))
   refine (gr _).mono ?_;rintro e w1 ⟨rfl,hb1⟩
   have hgb:w1.heap[w.heap.size]?=some (.cells #[.int .i64 0,.int .i64 0,.int .i64 0,.string ⟨#[]⟩,.int .i64 0] 159 (0,0)):=by
    rw[hb1.block w.heap.size (by simp)];exact aj _ _
   go_wp2_with (refine jY rfl 159 (.tmp 4) (.tmp 41) rfl w.heap.size #[.int .i64 T.kind,.int .i64 T.at_,.int .i64 T.aL,.string (bs T.word),.int .i64 T.num] rfl rfl 159 _ hgb Tryz.vp rfl (vq T) ?_;intro W hW mr nU hW1 hW2 hW3)
   have c0:W.cell? ⟨w.heap.size,0,none⟩=some (.int .i64 T.kind):=by rw[aa hW];rfl
   have c1:W.cell? ⟨w.heap.size,1,none⟩=some (.int .i64 T.at_):=by rw[aa hW];rfl
   have c2:W.cell? ⟨w.heap.size,2,none⟩=some (.int .i64 T.aL):=by rw[aa hW];rfl
   have c3:W.cell? ⟨w.heap.size,3,none⟩=some (.string (bs T.word)):=by rw[aa hW];rfl
   have c4:W.cell? ⟨w.heap.size,4,none⟩=some (.int .i64 T.num):=by rw[aa hW];rfl
   have hBW:Below w.heap.size w W:=fP (((Below.refl _ w).alloc (Nat.le_refl _) _).trans (hb1.mono (by simp))) (Nat.le_refl _) mr nU hW1 hW2 hW3;have Am:Hid _:=hBW;clear hW mr nU hW1 hW2 hW3 hb1 hBW;refine bodyPost_ret (v:=.agg #[.int .i64 T.kind,.int .i64 T.at_,.int .i64 T.aL,.string (bs T.word),.int .i64 T.num]) (by simp[results,Tryz.results130,go_sem,c0,c1,c2,c3,c4]) rfl ⟨rfl,Am.out⟩
  | false =>
   rw[hL] at hle
   cases hD:ll 48 57 s[p] with
   | true =>
    have d40:((s[p].toNat:Int)==40)=false:=by
     rw[beq_eq_false_iff_ne];unfold ll at hD;simp only[Bool.and_eq_true,decide_eq_true_eq] at hD;omega
    have d41:((s[p].toNat:Int)==41)=false:=by
     rw[beq_eq_false_iff_ne];unfold ll at hD;simp only[Bool.and_eq_true,decide_eq_true_eq] at hD;omega
    obtain⟨n,hn⟩:∃ n,n=run 48 57 (s.data.toList.drop p):=⟨_,rfl⟩
    have h0:0<n:=by rw[hn];exact JA s p 48 57 hlt hD
    have hrl:=sr 48 57 (s.data.toList.drop p);rw[List.length_drop,ez,<- hn] at hrl
    have pz:=λw=>pL s p p n 4 5 w hs hn (by omega) (by omega)
    rw[<- VD s p n hlt hL hn h0] at pz;rw[hD] at XJ;generalize iF (kU s p)=T at pz;unfold jh at pz;clear TI Rd XK hL hD hn h0 hrl
    go_enter Tryz.func130,Tryz.ntmps130
    go_wp2_with (first
     | (go_at_call 135;refine (Ei _).mono ?_;rintro e w' ⟨rfl,rfl⟩)
     | (go_at_call 136;refine (hby _).mono ?_;rintro e w' ⟨rfl,rfl⟩)
     | (go_at_call 137;refine (hle _).mono ?_;rintro e w' ⟨rfl,rfl⟩)
     | (go_at_call 139;refine (XJ _).mono ?_;rintro e w' ⟨rfl,rfl⟩))
    refine (pz _).mono ?_;rintro e w1 ⟨rfl,hb1⟩
    have hgb:w1.heap[w.heap.size]?=some (.cells #[.int .i64 0,.int .i64 0,.int .i64 0,.string ⟨#[]⟩,.int .i64 0] 159 (0,0)):=by
     rw[hb1.block w.heap.size (by simp)];exact aj _ _
    go_wp2_with (refine jY rfl 159 (.tmp 4) (.tmp 48) rfl w.heap.size #[.int .i64 T.kind,.int .i64 T.at_,.int .i64 T.aL,.string (bs T.word),.int .i64 T.num] rfl rfl 159 _ hgb Tryz.vp rfl (vq T) ?_;intro W hW mr nU hW1 hW2 hW3)
    have c0:W.cell? ⟨w.heap.size,0,none⟩=some (.int .i64 T.kind):=by rw[aa hW];rfl
    have c1:W.cell? ⟨w.heap.size,1,none⟩=some (.int .i64 T.at_):=by rw[aa hW];rfl
    have c2:W.cell? ⟨w.heap.size,2,none⟩=some (.int .i64 T.aL):=by rw[aa hW];rfl
    have c3:W.cell? ⟨w.heap.size,3,none⟩=some (.string (bs T.word)):=by rw[aa hW];rfl
    have c4:W.cell? ⟨w.heap.size,4,none⟩=some (.int .i64 T.num):=by rw[aa hW];rfl
    have hBW:Below w.heap.size w W:=fP (((Below.refl _ w).alloc (Nat.le_refl _) _).trans (hb1.mono (by simp))) (Nat.le_refl _) mr nU hW1 hW2 hW3;have Am:Hid _:=hBW;clear hW mr nU hW1 hW2 hW3 hb1 hBW;refine bodyPost_ret (v:=.agg #[.int .i64 T.kind,.int .i64 T.at_,.int .i64 T.aL,.string (bs T.word),.int .i64 T.num]) (by simp[results,Tryz.results130,go_sem,c0,c1,c2,c3,c4]) rfl ⟨rfl,Am.out⟩
   | false =>
    rw[hD] at XJ
    by_cases Co:s[p]=35
    ·have d35:((s[p].toNat:Int)==35)=true:=by rw[XK];simpa using Co
     have d40:((s[p].toNat:Int)==40)=false:=by rw[TI,Co];rfl
     have d41:((s[p].toNat:Int)==41)=false:=by rw[Rd,Co];rfl
     obtain⟨n,hn⟩:∃ n,n=run 48 57 (s.data.toList.drop (p+1)):=⟨_,rfl⟩;have hrl:=sr 48 57 (s.data.toList.drop (p+1));rw[List.length_drop,ez,<- hn] at hrl
     have pz:=λw=>pL s p (p+1) n 3 6 w hs hn (by omega) (by omega)
     rw[<- VE s p n hlt Co hn] at pz;generalize iF (kU s p)=T at pz;unfold jh at pz;rw[Int.natCast_add] at pz;clear TI Rd XK hL hD hn hrl Co
     go_enter Tryz.func130,Tryz.ntmps130
     go_wp2_with (first
      | (go_at_call 135;refine (Ei _).mono ?_;rintro e w' ⟨rfl,rfl⟩)
      | (go_at_call 136;refine (hby _).mono ?_;rintro e w' ⟨rfl,rfl⟩)
      | (go_at_call 137;refine (hle _).mono ?_;rintro e w' ⟨rfl,rfl⟩)
      | (go_at_call 139;refine (XJ _).mono ?_;rintro e w' ⟨rfl,rfl⟩))
     refine (pz _).mono ?_;rintro e w1 ⟨rfl,hb1⟩
     have hgb:w1.heap[w.heap.size]?=some (.cells #[.int .i64 0,.int .i64 0,.int .i64 0,.string ⟨#[]⟩,.int .i64 0] 159 (0,0)):=by
      rw[hb1.block w.heap.size (by simp)];exact aj _ _
     go_wp2_with (refine jY rfl 159 (.tmp 4) (.tmp 56) rfl w.heap.size #[.int .i64 T.kind,.int .i64 T.at_,.int .i64 T.aL,.string (bs T.word),.int .i64 T.num] rfl rfl 159 _ hgb Tryz.vp rfl (vq T) ?_;intro W hW mr nU hW1 hW2 hW3)
     have c0:W.cell? ⟨w.heap.size,0,none⟩=some (.int .i64 T.kind):=by rw[aa hW];rfl
     have c1:W.cell? ⟨w.heap.size,1,none⟩=some (.int .i64 T.at_):=by rw[aa hW];rfl
     have c2:W.cell? ⟨w.heap.size,2,none⟩=some (.int .i64 T.aL):=by rw[aa hW];rfl
     have c3:W.cell? ⟨w.heap.size,3,none⟩=some (.string (bs T.word)):=by rw[aa hW];rfl
     have c4:W.cell? ⟨w.heap.size,4,none⟩=some (.int .i64 T.num):=by rw[aa hW];rfl
     have hBW:Below w.heap.size w W:=fP (((Below.refl _ w).alloc (Nat.le_refl _) _).trans (hb1.mono (by simp))) (Nat.le_refl _) mr nU hW1 hW2 hW3;have Am:Hid _:=hBW;clear hW mr nU hW1 hW2 hW3 hb1 hBW;refine bodyPost_ret (v:=.agg #[.int .i64 T.kind,.int .i64 T.at_,.int .i64 T.aL,.string (bs T.word),.int .i64 T.num]) (by simp[results,Tryz.results130,go_sem,c0,c1,c2,c3,c4]) rfl ⟨rfl,Am.out⟩
    ·have d35:((s[p].toNat:Int)==35)=false:=by rw[XK];simpa using Co
     have htn:=NH s p hlt hL hD Co;rw[htn];clear htn XK hL hD Co
     by_cases Ra:s[p]=40
     ·have d40:((s[p].toNat:Int)==40)=true:=by rw[TI];simpa using Ra
      have VG:Hid _:=Ra;clear Ra TI Rd
      go_enter Tryz.func130,Tryz.ntmps130
      go_wp2_with (first
       | (go_at_call 135;refine (Ei _).mono ?_;rintro e w' ⟨rfl,rfl⟩)
       | (go_at_call 136;refine (hby _).mono ?_;rintro e w' ⟨rfl,rfl⟩))
      refine bodyPost_ret (v:=.agg #[.int .i64 2,.int .i64 p,.int .i64 ((p:Int)+1),.string ⟨#[]⟩,.int .i64 0]) (by simp[results,Tryz.results130,go_sem]) rfl ⟨?_,(Below.refl _ _).alloc (Nat.le_refl _) _⟩
      first | rfl | (simp only[if_pos VG.out];rfl) | (unfold jh;simp only[if_pos VG.out];rfl)
     ·have d40:((s[p].toNat:Int)==40)=false:=by rw[TI];simpa using Ra
      have VG:Hid _:=Ra;clear Ra TI
      by_cases Rb:s[p]=41
      ·have d41:((s[p].toNat:Int)==41)=true:=by rw[Rd];simpa using Rb
       have YU:Hid _:=Rb;clear Rb Rd
       go_enter Tryz.func130,Tryz.ntmps130
       go_wp2_with (first
        | (go_at_call 135;refine (Ei _).mono ?_;rintro e w' ⟨rfl,rfl⟩)
        | (go_at_call 136;refine (hby _).mono ?_;rintro e w' ⟨rfl,rfl⟩))
       refine bodyPost_ret (v:=.agg #[.int .i64 3,.int .i64 p,.int .i64 ((p:Int)+1),.string ⟨#[]⟩,.int .i64 0]) (by simp[results,Tryz.results130,go_sem]) rfl ⟨?_,(Below.refl _ _).alloc (Nat.le_refl _) _⟩
       first | rfl | (simp only[if_neg VG.out,if_pos YU.out];rfl) | (unfold jh;simp only[if_neg VG.out,if_pos YU.out];rfl)
      ·have d41:((s[p].toNat:Int)==41)=false:=by rw[Rd];simpa using Rb
       have YU:Hid _:=Rb;clear Rb Rd
       go_enter Tryz.func130,Tryz.ntmps130
       go_wp2_with (first
        | (go_at_call 135;refine (Ei _).mono ?_;rintro e w' ⟨rfl,rfl⟩)
        | (go_at_call 136;refine (hby _).mono ?_;rintro e w' ⟨rfl,rfl⟩)
        | (go_at_call 137;refine (hle _).mono ?_;rintro e w' ⟨rfl,rfl⟩)
        | (go_at_call 139;refine (XJ _).mono ?_;rintro e w' ⟨rfl,rfl⟩))
       refine bodyPost_ret (v:=.agg #[.int .i64 1,.int .i64 p,.int .i64 ((p:Int)+1),.string ⟨#[]⟩,.int .i64 0]) (by simp[results,Tryz.results130,go_sem]) rfl ⟨?_,(Below.refl _ _).alloc (Nat.le_refl _) _⟩
       first | rfl | (simp only[if_neg VG.out,if_neg YU.out];rfl) | (unfold jh;simp only[if_neg VG.out,if_neg YU.out];rfl)
 ·have htk:gK s.data.toList p=[]:=xb s p (by omega)
  rw[htk];clear htk VF
  go_enter Tryz.func130,Tryz.ntmps130
  go_wp2_with (go_at_call 135;refine (Ei _).mono ?_;rintro e w' ⟨rfl,rfl⟩)
  refine bodyPost_ret (v:=.agg #[.int .i64 0,.int .i64 s.size,.int .i64 s.size,.string ⟨#[]⟩,.int .i64 0]) (by simp[results,Tryz.results130,go_sem]) rfl ⟨rfl,(Below.refl _ _).alloc (Nat.le_refl _) _⟩
structure Gr (pE:PS->Int × PS) (st:PS):Prop where
 sc:(pE st).2.scope=st.scope
 l:(pE st).2.l.length<=st.l.length
 nd:(pE st).2.nodes.length+(pE st).2.l.length<=st.nodes.length+st.l.length
 op:(pE st).2.opened.length+4*(pE st).2.l.length<=st.opened.length+4*st.l.length+1
 up:st.opened.length<=(pE st).2.opened.length
def kR (pE:PS->Int × PS) (m:Nat):Prop:=∀ st:PS,st.l.length<=m->Gr pE st
structure Gs (a b:PS) (j n:Nat):Prop where
 sc:b.scope=a.scope
 l:b.l.length<=a.l.length
 nd:b.nodes.length+b.l.length<=a.nodes.length+a.l.length+n
 op:b.opened.length+4*b.l.length<=a.opened.length+4*a.l.length+j
 up:a.opened.length<=b.opened.length
theorem Gs.refl (a:PS):Gs a a 0 0:=⟨rfl,Nat.le_refl _,Nat.le_refl _,Nat.le_refl _,Nat.le_refl _⟩
theorem Gs.trans {a b c:PS} {i j n m:Nat} (h:Gs a b i n) (h':Gs b c j m):Gs a c (i+j) (n+m) :=
 ⟨h'.sc.trans h.sc,by have:=h.l;have:=h'.l;omega,by have:=h.nd;have:=h'.nd;omega,by have:=h.op;have:=h'.op;omega,by have:=h.up;have:=h'.up;omega⟩
theorem oq (st:PS):Gs st st.tail 0 0:=by
 refine⟨rfl,pK st,?_,?_,Nat.le_refl _⟩
 ·have:=pK st;simp only[PS.tail] at this ⊢;omega
 ·have:=pK st;simp only[PS.tail] at this ⊢;omega
theorem xd (a:Nat) (st:PS):Gs st (st.fail a) 0 0:=by
 unfold PS.fail
 split
 ·exact Gs.refl _
 ·exact⟨rfl,by simp,by simp,by simp,Nat.le_refl _⟩
theorem iO (len k:Nat) (st:PS):Gs st (st.expect len k) 0 0:=by
 unfold PS.expect
 split
 ·exact (oq st).trans (xd _ _)
 ·exact oq st
theorem tY {pE:PS->Int × PS} {m:Nat} (h:kR pE m) (st:PS) (hl:st.l.length<=m):Gs st (pE st).2 1 0 :=
 have g:=h st hl
 ⟨g.sc,g.l,g.nd,g.op,g.up⟩
theorem JB {pE:PS->Int × PS} {m:Nat} (h:kR pE m) (w:List UInt8) (src:Int) (st:PS) (hl:st.l.length<=m):Gs st (fF pE w src st).2 1 0:=by
 have g:=h { st with scope:=st.scope++[(w,src)] } hl;refine⟨?_,g.l,g.nd,g.op,g.up⟩;unfold fF;simp only[g.sc,List.dropLast_concat]
theorem xe {pE:PS->Int × PS} {m:Nat} (h:kR pE m) (n:NR) (st:PS) (hl:st.l.length<=m):Gs st (xA pE n st).2 1 0:=tY h st hl
theorem tZ {pE:PS->Int × PS} {m:Nat} (h:kR pE m) (n:NR) (st:PS) (hl:st.l.length<=m):Gs st (vW pE n st).2 2 0 :=
 have g:=xe h n st hl
 g.trans (tY h _ (Nat.le_trans g.l hl))
theorem Re {pE:PS->Int × PS} {m:Nat} (h:kR pE m) (n:NR) (st:PS) (hl:st.l.length<=m):Gs st (DF pE n st).2 3 0 :=
 have g:=tZ h n st hl
 g.trans (tY h _ (Nat.le_trans g.l hl))
theorem VH {pE:PS->Int × PS} {m:Nat} (h:kR pE m) (len:Nat) (n:NR) (st:PS) (hl:st.l.length<=m):Gs st (QQ len pE n st).2 2 0:=by
 have g1:=iO len 4 st;have g2:=tY h (st.expect len 4) (Nat.le_trans g1.l hl);have g3:=JB h (fE len st.l).word (pE (st.expect len 4)).1 (pE (st.expect len 4)).2 (by have:=g1.l;have:=g2.l;omega);exact (g1.trans g2).trans g3
theorem Rf {pE:PS->Int × PS} {m:Nat} (h:kR pE m) (len:Nat) (n:NR) (st:PS) (hl:st.l.length<=m):Gs st (I9 len pE n st).2 3 0:=by
 have g0:=tY h st hl;have g1:=iO len 4 (pE st).2;have g2:=tY h ((pE st).2.expect len 4) (by have:=g0.l;have:=g1.l;omega);have g3:=JB h (fE len (pE st).2.l).word (pE ((pE st).2.expect len 4)).1 (pE ((pE st).2.expect len 4)).2 (by have:=g0.l;have:=g1.l;have:=g2.l;omega);exact ((g0.trans g1).trans g2).trans g3
theorem Gs.le {a b:PS} {j j' n n':Nat} (h:Gs a b j n) (hj:j<=j') (hn:n<=n'):Gs a b j' n':=⟨h.sc,h.l,by have:=h.nd;omega,by have:=h.op;omega,h.up⟩
theorem JC {pE:PS->Int × PS} {m:Nat} (h:kR pE m) (ae:Bool) (len:Nat) (n:NR) (st:PS) (hl:st.l.length<=m):Gs st (pJ ae len pE n st).2 3 0:=by
 have hr:Gs st (kV len n st).2 0 0:=iO len 6 st;have hrl:=hr.l;unfold pJ
 split
 ·exact (VH h len n st hl).le (by omega) (by omega)
 split
 ·exact Rf h len n st hl
 split
 ·split
  ·exact (hr.trans (tZ h _ _ (by omega))).le (by omega) (by omega)
  ·exact (tZ h n st hl).le (by omega) (by omega)
 split
 ·exact (hr.trans (xe h _ _ (by omega))).le (by omega) (by omega)
 split
 ·exact (xe h n st hl).le (by omega) (by omega)
 split
 ·exact Re h n st hl
 ·exact (tZ h n st hl).le (by omega) (by omega)
theorem VI (n:NR) (st:PS):Gs st (st.add n) 0 1:=⟨rfl,Nat.le_refl _,by simp[PS.add];omega,Nat.le_refl _,Nat.le_refl _⟩
theorem yx {pE:PS->Int × PS} {m:Nat} (h:kR pE m) (ae:Bool) (len:Nat) (n:NR) (st:PS) (hl:st.l.length<=m):Gs st (ig ae len pE n st).2 3 1:=by
 have ht:=oq st;have htl:=ht.l;unfold ig;simp only
 split
 ·exact (ht.trans (xd _ _)).le (by omega) (by omega)
 ·have h1:=JC h ae len { n with form:=dw (fE len st.l).kind } st.tail (by omega)
  exact ((ht.trans h1).trans (iO len 3 _)).trans (VI _ _)
theorem Cz {pB:NR->PS->Int × PS} (len:Nat) (st:PS) (h:∀ n,st.l≠[]->Gs st.tail (pB n st.tail).2 3 1) :
  (jf len pB st).2.scope=st.scope/\(jf len pB st).2.l.length<=st.l.length/\(jf len pB st).2.nodes.length+(jf len pB st).2.l.length<=st.nodes.length+st.l.length /\
   (jf len pB st).2.opened.length+4*(jf len pB st).2.l.length<=st.opened.length+4*st.l.length/\st.opened.length<=(jf len pB st).2.opened.length:=by
 cases hl:st.l with
 | nil =>
  have e:jf len pB st=(-1,st.tail.fail len):=by simp[jf,hl,fE]
  rw[e];have g:=(oq st).trans (xd len st.tail);have g1:=g.sc;have g2:=g.l;have g3:=g.nd;have g4:=g.op;have g5:=g.up;rw[hl] at g2 g3 g4;exact⟨g1,g2,by omega,by omega,g5⟩
 | cons t r =>
  have ht:st.tail.l=r:=by simp[PS.tail,hl]
  unfold jf;rw[hl];simp only[List.length_cons]
  split
  ·refine⟨rfl,?_,?_,?_,Nat.le_refl _⟩ <;> simp only[PS.add,PS.tail,hl,List.tail_cons,List.length_append,List.length_cons,List.length_nil] <;> omega
  split
  ·refine⟨rfl,?_,?_,?_,Nat.le_refl _⟩ <;> simp only[PS.add,PS.tail,hl,List.tail_cons,List.length_append,List.length_cons,List.length_nil] <;> omega
  split
  ·have g:=h (jM (fE len (t::r))) (by rw[hl];simp)
   have g1:=g.sc;have g2:=g.l;have g3:=g.nd;have g4:=g.op;have g5:=g.up;rw[ht] at g2 g3 g4;have e1:st.tail.nodes=st.nodes:=rfl;have e2:st.tail.opened=st.opened:=rfl;rw[e1] at g3;rw[e2] at g4 g5
   refine⟨g1,?_,?_,?_,g5⟩ <;> omega
  ·have g:=(oq st).trans (xd (fE len (t::r)).at_ st.tail)
   have g1:=g.sc;have g2:=g.l;have g3:=g.nd;have g4:=g.op;have g5:=g.up;rw[hl] at g2 g3 g4;simp only[List.length_cons] at g2 g3 g4;exact⟨g1,by omega,by omega,by omega,g5⟩
theorem JD {f:PS->Int × PS} (st:PS) (h:let a:={ st with opened:=st.opened++[-1] };(f a).2.scope=a.scope/\(f a).2.l.length<=a.l.length/\(f a).2.nodes.length+(f a).2.l.length<=a.nodes.length+a.l.length /\
   (f a).2.opened.length+4*(f a).2.l.length<=a.opened.length+4*a.l.length/\a.opened.length<=(f a).2.opened.length):Gr (jg f) st:=by
 simp only at h;obtain⟨h1,h2,h3,h4,h5⟩:=h;refine⟨h1,h2,h3,?_,?_⟩
 ·unfold jg;simp only[List.length_set]
  simp only[List.length_append,List.length_cons,List.length_nil] at h4;omega
 ·unfold jg;simp only[List.length_set]
  simp only[List.length_append,List.length_cons,List.length_nil] at h5;omega
theorem Rg (ae:Bool) (len:Nat):∀ n:Nat,kR (fG ae len n) n:=by
 intro n
 induction n with
 | zero =>
  intro st hl;unfold fG;refine JD st (Cz len _ (λn hn=>absurd (List.length_eq_zero_iff.1 (by simpa using hl)) hn))
 | succ m ih =>
  intro st hl;unfold fG;refine JD st (Cz len _ (λn hn=>yx ih ae len n _ ?_));simp[PS.tail];omega
theorem ND (w:World) (p:Addr) (u:Value):w.grownBy (w.setCell p u) (some p.block) :=
 ⟨rfl,rfl,rfl,by simp[World.setCell],λk _ hk=>Below.heap_setCell _ _ _ _ (λe=>hk (by rw[e]))⟩
open Go.Lib (decDigits)
inductive Ty where
 | n
 | p (r:Nat) (a b:Ty)
 deriving DecidableEq
def Ty.txt:Ty->List UInt8
 | .n=>[110]
 | .p r a b=>60::(decDigits r++58::(a.txt++(b.txt++[62])))
def Ty.size:Ty->Nat
 | .n=>0
 | .p _ a b=>a.size+b.size+1
def Ty.bare:Ty->Ty
 | .n=>.n
 | .p _ a b=>.p 0 a.bare b.bare
def CA (c:UInt8):Bool:=decide (48<=c.toNat) && decide (c.toNat<=57)
theorem K1 (u:Nat):∀ c∈decDigits u,CA c=true:=by
 induction u using Nat.strongRecOn with
 | _ u ih =>
  rw[decDigits]
  have key:∀ k,k<10->CA (UInt8.ofNat (48+k))=true:=by
   intro k hk;unfold CA
   have:(UInt8.ofNat (48+k)).toNat=48+k:=by simp;omega
   rw[this];simp;omega
  split
  ·intro c hc;rw[List.mem_singleton] at hc;subst hc;exact key u (by omega)
  ·intro c hc
   rw[List.mem_append] at hc
   rcases hc with hc | hc
   ·exact ih (u / 10) (by omega) c hc
   ·rw[List.mem_singleton] at hc;subst hc;exact key _ (by omega)
theorem aM (l m:List UInt8):((bs l).toList==m)=(l==m):=by rw[Lib.toList_data];rfl
theorem bD (l m:List UInt8):bs l++bs m=bs (l++m):=by
 apply Tr;simp[bs]
def Ty.regs:Ty->Prop
 | .n=>True
 | .p r a b=>r<1000/\a.regs/\b.regs
def Ty.fit (t:Ty):Prop:=t.size<=127/\t.regs
structure fY where
 e:Nat
 at_:Nat
 of:List (List UInt8)
abbrev aV:=List (List UInt8 × Ty)
def look (env:aV) (s:List UInt8):Option Ty:=(env.reverse.find? (λx=>x.1==s)).map (·.2)
def gC (st:fY) (e p:Nat):fY:=if st.e=0 then { st with e:=e,at_:=p } else st
def fin (id p:Nat) (x:Ty × fY):Ty × fY :=
 let st:=if x.2.e=0/\63<x.1.size then gC x.2 6 p else x.2
 (x.1,{ st with of:=st.of.set id x.1.txt })
def cZ (cls:List Nat) (k:Kw) (p site:Nat) (ks:List Ty) (st:fY):Ty × fY :=
 match k,ks with
 | .new,a::_=>(a,st)
 | .pair,[a,b]=>(.p (cls.getD site 0) a b,st)
 | .fst,.p _ a _::_=>(a,st)
 | .snd,.p _ _ b::_=>(b,st)
 | .di,[a,b,c]=>if a=.n/\b.bare=c.bare then (b,st) else (.n,gC st 5 p)
 | .loop,[a,b,c]=>if a=.n/\b.bare=c.bare then (b,st) else (.n,gC st 5 p)
 | .add,[a,b]=>if a=.n/\b=.n then (.n,st) else (.n,gC st 5 p)
 | .sub,[a,b]=>if a=.n/\b=.n then (.n,st) else (.n,gC st 5 p)
 | .less,[a,b]=>if a=.n/\b=.n then (.n,st) else (.n,gC st 5 p)
 | _,_=>(.n,gC st 5 p)
mutual
def aH (cls:List Nat):PT->Nat->Nat->aV->fY->Ty × fY
 | .num p _,id,_,_,st=>fin id p (.n,st)
 | .name p s,id,_,env,st=>fin id p (match look env s with
  | some t=>(t,st)
  | none=>(.n,gC st 4 p))
 | .node p k nm _ kids,id,site,env,st =>
  fin id p (if k=.aP then fZ cls nm kids (id+1) site env st
   else
    let x:=if k=.loop then bS cls nm kids (id+1) site env st else bW cls kids (id+1) (site+if k=.pair then 1 else 0) env st
    if x.2.e≠0 then (.n,x.2) else cZ cls k p site x.1 x.2)
def bW (cls:List Nat):List PT->Nat->Nat->aV->fY->List Ty × fY
 | [],_,_,_,st=>([],st)
 | a::r,id,site,env,st =>
  let x:=aH cls a id site env st
  let y:=bW cls r (id+a.cnt) (site+a.bz) env x.2
  (x.1::y.1,y.2)
def fZ (cls:List Nat) (nm:List UInt8):List PT->Nat->Nat->aV->fY->Ty × fY
 | [a,b],id,site,env,st =>
  let x:=aH cls a id site env st
  aH cls b (id+a.cnt) (site+a.bz) (env++[(nm,x.1)]) x.2
 | _,_,_,_,st=>(.n,st)
def bS (cls:List Nat) (nm:List UInt8):List PT->Nat->Nat->aV->fY->List Ty × fY
 | [a,b,c],id,site,env,st =>
  let x:=aH cls a id site env st
  let y:=aH cls b (id+a.cnt) (site+a.bz) env x.2
  let z:=aH cls c (id+a.cnt+b.cnt) (site+a.bz+b.bz) (env++[(nm,y.1)]) y.2
  ([x.1,y.1,z.1],z.2)
 | _,_,_,_,st=>([],st)
end
def aa7 (cv nv tv ov:Value) (e p:Nat):Array Value:=#[cv,nv,tv,ov,.int .i64 e,.int .i64 p]
mutual
theorem PT.ind {P:PT->Prop} (h1:∀ p s,P (.num p s)) (h2:∀ p s,P (.name p s)) (h3:∀ p k nm rg kids,(∀ x∈kids,P x)->P (.node p k nm rg kids)):∀ t,P t
 | .num p s=>h1 p s
 | .name p s=>h2 p s
 | .node p k nm rg kids=>h3 p k nm rg kids (PT.YV h1 h2 h3 kids)
theorem PT.YV {P:PT->Prop} (h1:∀ p s,P (.num p s)) (h2:∀ p s,P (.name p s)) (h3:∀ p k nm rg kids,(∀ x∈kids,P x)->P (.node p k nm rg kids)):∀ l:List PT,∀ x∈l,P x
 | []=>λx hx=>by simp at hx
 | t::r=>λx hx=>by
  have ht:=PT.ind h1 h2 h3 t;have hr:=PT.YV h1 h2 h3 r
  rcases List.mem_cons.1 hx with h | h
  ·rw[h];exact ht
  ·exact hr x h
end
structure Rec where
 op:List UInt8
 p:Nat
 nm:List UInt8
 n:Int
 id:Nat
 last:Nat
 site:Nat
theorem Bl (ts:List PT) (i:Nat):ax (ts.take i)<=ax ts:=by
 induction ts generalizing i with
 | nil=>simp
 | cons a r ih=>cases i with
  | zero=>simp[ax]
  | succ i=>have:=ih i;simp[ax];omega
def acR (l:List UInt8):Value:=.string (bs l)
def apart (u v:Value):Prop:=∀ g,u.ownBlock=some g->v.ownBlock≠some g
theorem apart.symm {u v:Value} (h:apart u v):apart v u:=λg hg hu=>h g hu hg
structure Fr (w w':World) (yb:Nat) (nv tv ov bJ qJ:Value):Prop where
 size:w.heap.size<=w'.heap.size
 blk:∀ k,k<w.heap.size->k≠yb->nv.ownBlock≠some k->tv.ownBlock≠some k->ov.ownBlock≠some k->w'.heap[k]?=w.heap[k]?
 n:∀ g,bJ.ownBlock=some g->nv.ownBlock=some g\/w.heap.size<=g
 t:∀ g,qJ.ownBlock=some g->tv.ownBlock=some g\/w.heap.size<=g
theorem Fr.refl (w:World) (yb:Nat) (nv tv ov:Value):Fr w w yb nv tv ov nv tv:=⟨Nat.le_refl _,λ_ _ _ _ _ _=>rfl,λ_ h=>Or.inl h,λ_ h=>Or.inl h⟩
theorem Fr.trans {w w1 w2:World} {yb:Nat} {nv tv ov sL Yj cO Yk:Value} (h:Fr w w1 yb nv tv ov sL Yj) (h':Fr w1 w2 yb sL Yj ov cO Yk):Fr w w2 yb nv tv ov cO Yk:=by
 refine⟨Nat.le_trans h.size h'.size,?_,?_,?_⟩
 ·intro k hk hy hn ht ho
  rw[h'.blk k (Nat.lt_of_lt_of_le hk h.size) hy (λe=>by rcases h.n k e with e | e;exact hn e;omega) (λe=>by rcases h.t k e with e | e;exact ht e;omega) ho];exact h.blk k hk hy hn ht ho
 ·intro g hg
  rcases h'.n g hg with e | e
  ·exact h.n g e
  ·exact Or.inr (Nat.le_trans h.size e)
 ·intro g hg
  rcases h'.t g hg with e | e
  ·exact h.t g e
  ·exact Or.inr (Nat.le_trans h.size e)
theorem Fr.below {w w':World} (h:Below w.heap.size w w') (yb:Nat) (nv tv ov:Value):Fr w w' yb nv tv ov nv tv:=⟨h.size,λk hk _ _ _ _=>h.block k hk,λ_ h=>Or.inl h,λ_ h=>Or.inl h⟩
theorem Fr.set {w w':World} {yb g o:Nat} {x:Value} (nv tv ov:Value) (ho:ov.ownBlock=some g) (hW:w'.heap=(w.setCell ⟨g,o,none⟩ x).heap):Fr w w' yb nv tv ov nv tv :=
 ⟨by rw[hW];simp[World.setCell],λk _ _ _ _ h=>by rw[hW,aq _ _ (by simp only;intro e;subst e;exact h ho)],λ_ h=>Or.inl h,λ_ h=>Or.inl h⟩
end Go.Proofs.YtpicaknklgccoabGreatDoor
