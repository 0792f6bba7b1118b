import Derived.Test.YtpicaknklgccoabGreatDoorS1
import Derived.ArgAppend
import Derived.Laws.Tables
import Derived.BigRegion
import Derived.BigQuiet
import Derived.Deep.QuietTactic
import Derived.Lib.ItoaNum
import Derived.Deep.RegionHeld3
import Derived.Deep.CutRange
set_option maxHeartbeats 2000000
set_option maxRecDepth 100000
namespace Go.Proofs.YtpicaknklgccoabGreatDoor
open Go.RowKit
theorem aa {w:World} {b:Nat} {arr:Array Value} {t:TypeId} {fr:Nat × Nat} (h:w.heap[b]?=some (.cells arr t fr)) (o:Nat):w.cell? ⟨b,o,none⟩=arr[o]?:=by
 simp [World.cell?,h]
theorem ag {w:World} {b:Nat} {arr:Array Value} {t:TypeId} (h:w.heap[b]?=some (.cells arr t (0,0))) (o:Nat):w.frozen? ⟨b,o,none⟩=false:=by
 simp [World.frozen?,h]
theorem ay {w:World} {b:Nat} {arr:Array Value} {t:TypeId} {fr:Nat × Nat} (h:w.heap[b]?=some (.cells arr t fr)) (o:Nat) (u:Value):(w.setCell ⟨b,o,none⟩ u).heap[b]?=some (.cells (arr.setIfInBounds o u) t fr):=by
 simp [World.setCell,Array.getElem?_modify,h]
theorem ak {w:World} {b:Nat} (a:Addr) (u:Value) (hb:b≠a.block):(w.setCell a u).heap[b]?=w.heap[b]?:=Below.heap_setCell _ _ _ _ hb
theorem af {w:World} {b:Nat} {o:Obj} (h:w.heap[b]?=some o):b < w.heap.size:=by
 rcases Nat.lt_or_ge b w.heap.size with h1 | h1
 ·exact h1
 ·rw [Array.getElem?_eq_none h1] at h;cases h
theorem aN {w:World} {b:Nat} {x:Obj} (o:Obj) (h:w.heap[b]?=some x):(w.alloc o).heap[b]?=some x:=by
 rw [Below.heap_alloc _ _ _ (af h)];exact h
theorem aj (w:World) (o:Obj):(w.alloc o).heap[w.heap.size]?=some o:=by
 show (w.heap.push o)[w.heap.size]?=_;simp
theorem dn {w:World} {base base':Nat} {e:TypeId} {size:Nat} {v:Value} {n:Nat} {xs:List Value} (h:w.ownsRow base e size v n xs) (hb:∀ k,v.ownBlock=some k->base'<=k):w.ownsRow base' e size v n xs:=by
 obtain ⟨h1,h2⟩:=h
 refine ⟨h1,?_⟩
 rcases h2 with h2 | ⟨g,cap,cur,hv,hg,hh,r⟩
 ·exact Or.inl h2
 ·exact Or.inr ⟨g,cap,cur,hv,hb g (by rw [hv];rfl),hh,r⟩
theorem ax {w w':World} {base:Nat} {e:TypeId} {size:Nat} {v:Value} {n:Nat} {xs:List Value} (h:w.ownsRow base e size v n xs) (hb:∀ k,v.ownBlock=some k->w'.heap[k]?=w.heap[k]?):w'.ownsRow base e size v n xs:=by
 obtain ⟨h1,h2⟩:=h
 refine ⟨h1,?_⟩
 rcases h2 with h2 | ⟨g,cap,cur,hv,hg,hh,r⟩
 ·exact Or.inl h2
 ·exact Or.inr ⟨g,cap,cur,hv,hg,by rw [hb g (by rw [hv];rfl)];exact hh,r⟩
theorem oX {P:Program} (w:World) {ops:Array Oper} {rest:List Oper} {o:Oper} {a:Act} {Q:Exit->Act->World->Prop} (hgd:o.guard=none)
  (s x:Operand) (t:TypeId) (ho:o.op=Op.call { callee:=Callee.builtin Builtin.append,args:=#[s,x],argTypes:=#[t,t] }) (e:TypeId) (i:TypeInfo)
  (z:Value) (size bytes:Nat) (ht:P.underlying t=some (TypeDesc.slice e)) (hi:P.info? e=some i) (hz:i.zero=some z) (hsize:i.size=size) (hby:i.bytes=bytes)
  (hzs:z.cells.size=size) (hsz:0 < size) (v:Value) (n:Nat) (xs:List Value) (hs:a.eval s=v) (hown:w.ownsRow 0 e size v n xs) (ad:Addr) (m c:Nat) (news:List Value)
  (hx:a.eval x=Value.slice (some ad) m c) (hl:news.length=m * size) (hnews:∀ (j:Nat) (u:Value),news[j]?=some u->w.cell? (ad.add j)=some u)
  (h1:∀ (u:Value),u∈news->u.oneCell'=true) (hm:0 < m) (h63:n+m<=maxLen) (hbytes:(n+m) * bytes<=140737488355328)
  (h:∀ (g cap:Nat) (w':World),w'.ownsRow 0 e size (.slice (some ⟨g,0,none⟩) (n+m) cap) (n+m) (xs++news)->w.grownBy w' v.ownBlock ->
   (v.ownBlock=some g\/w.heap.size<=g)->wpList P ops Q rest (a.put o.dst (.slice (some ⟨g,0,none⟩) (n+m) cap)) w') :
  wpList P ops Q (o::rest) a w:=by
 have fin:∀ (v':Value) (w':World),w'.ownsRow w.heap.size e size v' (n+m) (xs++news)->w.grownBy w' none->wpList P ops Q rest (a.put o.dst v') w':=by
  intro v' w' C5 hg'
  obtain ⟨g,cap,hv'⟩:∃ g cap,v'=.slice (some ⟨g,0,none⟩) (n+m) cap:=by
   rcases C5.2 with ⟨_,hh⟩ | ⟨g,cap,cur,hv,_⟩
   ·omega
   ·exact ⟨_,_,hv⟩
  subst hv'
  have hlt:=C5.lt g rfl
  exact h g cap w' (dn C5 (fun k hk=>Nat.zero_le _)) ⟨hg'.os,hg'.tape,hg'.output,hg'.size,fun k hk _=>hg'.block k hk (by simp)⟩ (Or.inr hlt.1)
 rcases hown.2 with ⟨hv,hn⟩ | ⟨g,cap,cur,hv,hg,hh,hn,hcm,hcs,htake⟩
 ·subst hn
  have hxs:xs=[]:=List.length_eq_zero_iff.1 (by have:=hown.1;omega)
  refine wpList_append_grows w hgd s x t ho e i z size bytes ht hi hz hsize hby hzs hsz none 0 0 xs (by rw [hs,hv]) (fun _=>⟨rfl,rfl⟩) hown.1 (fun b hb=>by cases hb) ad m c news hx hl hnews h1 (by omega) h63 hbytes fin
 ·by_cases hroom:n+m<=cap
  ·refine wpList_append_fits w hgd s x t ho 0 e i size ht hi hsize g n cap xs (by rw [hs,hv]) (by rw [hv] at hown;exact hown) ad m c news hx hl hnews h1 hroom ?_
   intro w' C5 hg'
   exact h g cap w' C5 (by rw [hv];exact hg') (Or.inl (by rw [hv];rfl))
  ·refine wpList_append_grows w hgd s x t ho e i z size bytes ht hi hz hsize hby hzs hsz (some ⟨g,0,none⟩) n cap xs (by rw [hs,hv]) (fun hh=>by cases hh) hown.1 ?_ ad m c news hx hl hnews h1 (by omega) h63 hbytes fin
   intro b hb j u hj
   simp only [Option.some.injEq] at hb
   subst hb
   exact hown.cells (by rw [hv];rfl) j u hj
def ptr (b:Nat):Value:=.pointer (some ⟨b,0,none⟩)
theorem Ac (ts:List PT) (t:PT):az (ts++[t])=az ts+t.cnt:=by
 induction ts with
 | nil=>simp [az]
 | cons a r ih=>simp [az,ih];omega
theorem jq {P:Program} {ops:Array Oper} {rest:List Oper} {o:Oper} {a:Act} {w:World} {Q:Exit->Act->World->Prop} (hgd:o.guard=none) (ty:TypeId) (x y:Operand) (ho:o.op=.store ty x y)
  (g:Nat) (cells:Array Value) (hx:a.eval x=.pointer (some ⟨g,0,none⟩)) (hy:a.eval y=.agg cells)
  (t:TypeId) (old:Array Value) (hg:w.heap[g]?=some (.cells old t (0,0))) (hi:(P.info? ty).map (·.size)=some cells.size)
  (hold:old.size=cells.size) (h1:cells.all (·.oneCell')=true)
  (h:∀ W:World,W.heap[g]?=some (.cells cells t (0,0))->W.heap.size=w.heap.size->(∀ k,k≠g->W.heap[k]?=w.heap[k]?)->W.os=w.os->W.tape=w.tape->W.output=w.output ->
   wpList P ops Q rest (a.put o.dst undef) W):wpList P ops Q (o::rest) a w:=by
 refine wpList_store_row hgd ty x y ho g cells hx hy t old hg hi hold h1 ?_
 exact h _ (setRow_heap w g old cells t (0,0) hg) (by simp) (fun k hk=>setRow_other w g k cells hk) rfl rfl rfl
theorem fp {B g:Nat} {w0 w W:World} (hb:Below B w0 w) (hg:B<=g) (hs:W.heap.size=w.heap.size) (ho:∀ k,k≠g->W.heap[k]?=w.heap[k]?) (e1:W.os=w.os) (e2:W.tape=w.tape) (e3:W.output=w.output):Below B w0 W :=
 ⟨e1.trans hb.os,e2.trans hb.tape,e3.trans hb.output,by rw [hs];exact hb.size,fun k hk=>by rw [ho k (by omega)];exact hb.block k hk⟩
theorem Tryz.tN:(Tryz.prog.info? 159).map (·.size)=some 5:=by kernel_rfl
theorem tO (T:TN):(#[Value.int .i64 T.kind,.int .i64 T.at_,.int .i64 T.aR,.string (bs T.word),.int .i64 T.num]:Array Value).all (·.oneCell')=true:=by simp [Value.oneCell']
theorem JF (s:ByteArray) (k:Nat) (hk:k < s.size) (h:eu s[k]=true):gj s.data.toList k=gj s.data.toList (k+1):=by
 unfold gj;rw [dN];exact uV s k hk h
theorem Hk (s:ByteArray) (k:Nat) (hk:k < s.size) (h:eu s[k]=false):gj s.data.toList k=j5 s k::gj s.data.toList (k+(aK (s.data.toList.drop k)).1):=by
 unfold gj;rw [dN];exact yY s k hk h
theorem vI (s:ByteArray) (k:Nat) (hk:s.size<=k):gj s.data.toList k=[]:=by
 unfold gj;rw [dN,show s.size - k=0 from by omega];rfl
theorem C6 (s:ByteArray):∀ (m a:Nat),s.size - a<=m->gj s.data.toList (a+uW (s.data.toList.drop a))=gj s.data.toList a/\(∀ h:a+uW (s.data.toList.drop a) < s.size,eu (s[a+uW (s.data.toList.drop a)])=false):=by
 intro m
 induction m with
 | zero =>
  intro a h
  have:uW (s.data.toList.drop a)=0:=by rw [rZ s a (by omega)];rfl
  rw [this];exact ⟨rfl,fun h'=>by omega⟩
 | succ m ih =>
  intro a h
  by_cases hlt:a < s.size
  ·cases hb:eu s[a] with
   | true =>
    have e:a+uW (s.data.toList.drop a)=(a+1)+uW (s.data.toList.drop (a+1)):=by rw [drop_cons s a hlt];simp [uW,hb];omega
    obtain ⟨h1,h2⟩:=ih (a+1) (by omega)
    refine ⟨?_,?_⟩
    ·rw [e,h1,JF s a hlt hb]
    ·simp only [e];exact h2
   | false =>
    have e:uW (s.data.toList.drop a)=0:=by rw [drop_cons s a hlt];simp [uW,hb]
    refine ⟨by rw [e,Nat.add_zero],?_⟩
    simp only [e,Nat.add_zero]
    intro _;exact hb
  ·have:uW (s.data.toList.drop a)=0:=by rw [rZ s a (by omega)];rfl
   rw [this];exact ⟨rfl,fun h'=>by omega⟩
theorem Hl (s:ByteArray) (p:Nat) (hp:p < s.size):gM (j5 s p)=⟨bF (aK (s.data.toList.drop p)).2,p,p+(aK (s.data.toList.drop p)).1,ux (j5 s p),Ct (j5 s p)⟩:=by
 unfold gM;rw [Cr s p hp];rfl
theorem oA (s:ByteArray) (p:Nat) (lo hi:Int) (hp:p < s.size) (h:jX lo hi s[p]=false):run lo hi (s.data.toList.drop p)=0:=by
 rw [drop_cons s p hp];simp [run,h]
theorem Hm (s:ByteArray) (p:Nat) (lo hi:Int) (hp:p < s.size) (h:jX lo hi s[p]=true):0 < run lo hi (s.data.toList.drop p):=by
 rw [drop_cons s p hp];simp [run,h]
theorem JG (s:ByteArray) (p:Nat) (hp:p < s.size) (hl:jX 97 122 s[p]=false) (hd:jX 48 57 s[p]=false) (Bb:s[p]≠35) :
  aK (s.data.toList.drop p)=(1,if s[p]=40 then .opn else if s[p]=41 then .cls else .bad):=by
 unfold aK
 rw [oA s p 97 122 hp hl,oA s p 48 57 hp hd,if_neg (by omega),if_neg (by omega),drop_cons s p hp]
 simp only
 rw [if_neg Bb]
theorem Ml (s:ByteArray) (p:Nat) (hp:p < s.size) (hl:jX 97 122 s[p]=false) (hd:jX 48 57 s[p]=false) (Bb:s[p]≠35) :
  gM (j5 s p)=⟨if s[p]=40 then 2 else if s[p]=41 then 3 else 1,p,p+1,[],0⟩:=by
 have h:=JG s p hp hl hd Bb
 rw [Hl s p hp]
 unfold ux Ct j5
 rw [h]
 by_cases K8:s[p]=40
 ·simp [K8,bF]
 ·by_cases K9:s[p]=41
  ·simp [K9,bF]
  ·simp [K8,K9,bF]
theorem Qg (s:ByteArray) (p n:Nat) (hp:p < s.size) (hn:n=run 97 122 (s.data.toList.drop p)) (h0:0 < n) :
  gM (j5 s p)=⟨bF (ep ((s.data.toList.drop p).take n) n),p,p+n,if n<=8 then (s.data.toList.drop p).take n else [],0⟩:=by
 have h:aK (s.data.toList.drop p)=(n,ep ((s.data.toList.drop p).take n) n):=by unfold aK;rw [<- hn,if_pos h0]
 have hlen:((s.data.toList.drop p).take n).length=n:=by
  have:=qD 97 122 (s.data.toList.drop p)
  rw [List.length_take];omega
 rw [Hl s p hp]
 unfold ux Ct j5
 rw [h]
 simp only
 by_cases h8:n<=8
 ·rw [if_pos h8]
  unfold ep
  cases uU ((s.data.toList.drop p).take n) with
  | some k=>rfl
  | none=>simp [h8]
 ·rw [if_neg h8]
  have:=wk ((s.data.toList.drop p).take n) (by omega)
  rw [hlen] at this
  rw [this]
theorem Uj (s:ByteArray) (p n:Nat) (hp:p < s.size) (hl:jX 97 122 s[p]=false) (hn:n=run 48 57 (s.data.toList.drop p)) (h0:0 < n) :
  gM (j5 s p)=kM (s.data.toList.drop p) 4 5 p p n:=by
 have h:aK (s.data.toList.drop p)=(n,if cj ((s.data.toList.drop p).take n) 4 then .num else .bad):=by
  unfold aK;rw [oA s p 97 122 hp hl,if_neg (by omega),<- hn,if_pos h0]
 rw [Hl s p hp]
 unfold ux Ct j5 kM
 rw [h]
 simp only
 cases cj ((s.data.toList.drop p).take n) 4 with
 | true=>simp [bF]
 | false=>simp [bF]
theorem C8 (l:List UInt8):aq (35::l)=aq l:=by unfold aq;simp
theorem Uk (s:ByteArray) (p n:Nat) (hp:p < s.size) (Bb:s[p]=35) (hn:n=run 48 57 (s.data.toList.drop (p+1))) :
  gM (j5 s p)=kM (s.data.toList.drop (p+1)) 3 6 p (p+1) n:=by
 have hl:jX 97 122 s[p]=false:=by rw [Bb];decide
 have hd:jX 48 57 s[p]=false:=by rw [Bb];decide
 have h:aK (s.data.toList.drop p)=(n+1,if cj ((s.data.toList.drop (p+1)).take n) 3 then .GS else .bad):=by
  unfold aK
  rw [oA s p 97 122 hp hl,oA s p 48 57 hp hd,if_neg (by omega),if_neg (by omega),drop_cons s p hp]
  simp only
  rw [if_pos Bb,<- hn]
 rw [Hl s p hp]
 unfold ux Ct j5 kM
 rw [h]
 simp only
 have ht:(s.data.toList.drop p).take (n+1)=35::(s.data.toList.drop (p+1)).take n:=by rw [drop_cons s p hp,List.take_succ_cons,Bb]
 rw [ht]
 cases cj ((s.data.toList.drop (p+1)).take n) 3 with
 | true=>simp [bF,C8];omega
 | false=>simp [bF];omega
theorem Mm (s:ByteArray) (a:Nat) (w:World) (hs:s.size<=9000) (ha:a<=s.size) :
  Calls Tryz.prog 130 #[.string s,.int .i64 a] w fun e w'=>e=.returned (iz (eY s.size (gj s.data.toList a)))/\Below w.heap.size w w':=by
 obtain ⟨XI,XJ⟩:=C6 s s.size a (by omega)
 have kN:=Ln (s.data.toList.drop a)
 rw [List.length_drop,dN] at kN
 have C9:=fun w=>wj s a w hs ha
 rw [<- XI]
 obtain ⟨p,hp⟩:∃ p,p=a+uW (s.data.toList.drop a):=⟨_,rfl⟩
 have hps:p<=s.size:=by omega
 have Ul:∀ h:p < s.size,eu s[p]=false:=by subst hp;exact XJ
 clear XJ
 rw [<- hp] at C9 ⊢
 clear hp kN XI
 have hby:=fun w=>kL s p w (by omega)
 by_cases hlt:p < s.size
 ·have hb:=Ul hlt
  clear Ul
  have htk:eY s.size (gj s.data.toList p)=gM (j5 s p):=by rw [Hk s p hlt hb];rfl
  rw [htk]
  clear htk hb
  rw [wh s p hlt] at hby
  have hle:=fun w=>r7 s[p] w
  have Wd:=fun w=>uz s[p] w
  have Sl:((s[p].toNat:Int) == 40)=(s[p] == 40):=j4 s[p] 40
  have Qh:((s[p].toNat:Int) == 41)=(s[p] == 41):=j4 s[p] 41
  have We:((s[p].toNat:Int) == 35)=(s[p] == 35):=j4 s[p] 35
  cases hL:jX 97 122 s[p] with
  | true =>
   have d40:((s[p].toNat:Int) == 40)=false:=by
    rw [beq_eq_false_iff_ne];unfold jX at hL;simp only [Bool.and_eq_true,decide_eq_true_eq] at hL;omega
   have d41:((s[p].toNat:Int) == 41)=false:=by
    rw [beq_eq_false_iff_ne];unfold jX at hL;simp only [Bool.and_eq_true,decide_eq_true_eq] at hL;omega
   obtain ⟨n,hn⟩:∃ n,n=run 97 122 (s.data.toList.drop p):=⟨_,rfl⟩
   have h0:0 < n:=by rw [hn];exact Hm s p 97 122 hlt hL
   have hrl:=qD 97 122 (s.data.toList.drop p)
   rw [List.length_drop,dN,<- hn] at hrl
   have fV:=fun w=>AY s p n w hs hn (by omega)
   rw [<- Qg s p n hlt hn h0] at fV
   rw [hL] at hle
   generalize gM (j5 s p)=T at fV
   unfold iz at fV
   clear Sl Qh We hL hn h0 hrl
   go_enter Tryz.func130,Tryz.ntmps130
   go_wp2_with (first
    | (go_at_call 135;refine (C9 _).mono ?_;rintro e w' ⟨rfl,rfl⟩)
    | (go_at_call 136;refine (hby _).mono ?_;rintro e w' ⟨rfl,rfl⟩)
    | (go_at_call 137;refine (hle _).mono ?_;rintro e w' ⟨rfl,rfl⟩)
    | (go_at_call 139;refine (Wd _).mono ?_;rintro e w' ⟨rfl,rfl⟩))
   refine (fV _).mono ?_
   rintro e w1 ⟨rfl,hb1⟩
   have hgb:w1.heap[w.heap.size]?=some (.cells #[.int .i64 0,.int .i64 0,.int .i64 0,.string ⟨#[]⟩,.int .i64 0] 159 (0,0)):=by
    rw [hb1.block w.heap.size (by simp)];exact aj _ _
   go_wp2_with (refine jq rfl 159 (.tmp 4) (.tmp 41) rfl w.heap.size #[.int .i64 T.kind,.int .i64 T.at_,.int .i64 T.aR,.string (bs T.word),.int .i64 T.num] rfl rfl 159 _ hgb Tryz.tN rfl (tO T) ?_;intro W hW lH mP hW1 hW2 hW3)
   have c0:W.cell? ⟨w.heap.size,0,none⟩=some (.int .i64 T.kind):=by rw [aa hW];rfl
   have c1:W.cell? ⟨w.heap.size,1,none⟩=some (.int .i64 T.at_):=by rw [aa hW];rfl
   have c2:W.cell? ⟨w.heap.size,2,none⟩=some (.int .i64 T.aR):=by rw [aa hW];rfl
   have c3:W.cell? ⟨w.heap.size,3,none⟩=some (.string (bs T.word)):=by rw [aa hW];rfl
   have c4:W.cell? ⟨w.heap.size,4,none⟩=some (.int .i64 T.num):=by rw [aa hW];rfl
   have hBW:Below w.heap.size w W:=fp (((Below.refl _ w).alloc (Nat.le_refl _) _).trans (hb1.mono (by simp))) (Nat.le_refl _) lH mP hW1 hW2 hW3
   have yR:Hid _:=hBW
   clear hW lH mP hW1 hW2 hW3 hb1 hBW
   refine bodyPost_ret (v:=.agg #[.int .i64 T.kind,.int .i64 T.at_,.int .i64 T.aR,.string (bs T.word),.int .i64 T.num]) (by simp [results,Tryz.results130,go_sem,c0,c1,c2,c3,c4]) rfl ⟨rfl,yR.out⟩
  | false =>
   rw [hL] at hle
   cases hD:jX 48 57 s[p] with
   | true =>
    have d40:((s[p].toNat:Int) == 40)=false:=by
     rw [beq_eq_false_iff_ne];unfold jX at hD;simp only [Bool.and_eq_true,decide_eq_true_eq] at hD;omega
    have d41:((s[p].toNat:Int) == 41)=false:=by
     rw [beq_eq_false_iff_ne];unfold jX at hD;simp only [Bool.and_eq_true,decide_eq_true_eq] at hD;omega
    obtain ⟨n,hn⟩:∃ n,n=run 48 57 (s.data.toList.drop p):=⟨_,rfl⟩
    have h0:0 < n:=by rw [hn];exact Hm s p 48 57 hlt hD
    have hrl:=qD 48 57 (s.data.toList.drop p)
    rw [List.length_drop,dN,<- hn] at hrl
    have rT:=fun w=>nZ s p p n 4 5 w hs hn (by omega) (by omega)
    rw [<- Uj s p n hlt hL hn h0] at rT
    rw [hD] at Wd
    generalize gM (j5 s p)=T at rT
    unfold iz at rT
    clear Sl Qh We hL hD hn h0 hrl
    go_enter Tryz.func130,Tryz.ntmps130
    go_wp2_with (first
     | (go_at_call 135;refine (C9 _).mono ?_;rintro e w' ⟨rfl,rfl⟩)
     | (go_at_call 136;refine (hby _).mono ?_;rintro e w' ⟨rfl,rfl⟩)
     | (go_at_call 137;refine (hle _).mono ?_;rintro e w' ⟨rfl,rfl⟩)
     | (go_at_call 139;refine (Wd _).mono ?_;rintro e w' ⟨rfl,rfl⟩))
    refine (rT _).mono ?_
    rintro e w1 ⟨rfl,hb1⟩
    have hgb:w1.heap[w.heap.size]?=some (.cells #[.int .i64 0,.int .i64 0,.int .i64 0,.string ⟨#[]⟩,.int .i64 0] 159 (0,0)):=by
     rw [hb1.block w.heap.size (by simp)];exact aj _ _
    go_wp2_with (refine jq rfl 159 (.tmp 4) (.tmp 48) rfl w.heap.size #[.int .i64 T.kind,.int .i64 T.at_,.int .i64 T.aR,.string (bs T.word),.int .i64 T.num] rfl rfl 159 _ hgb Tryz.tN rfl (tO T) ?_;intro W hW lH mP hW1 hW2 hW3)
    have c0:W.cell? ⟨w.heap.size,0,none⟩=some (.int .i64 T.kind):=by rw [aa hW];rfl
    have c1:W.cell? ⟨w.heap.size,1,none⟩=some (.int .i64 T.at_):=by rw [aa hW];rfl
    have c2:W.cell? ⟨w.heap.size,2,none⟩=some (.int .i64 T.aR):=by rw [aa hW];rfl
    have c3:W.cell? ⟨w.heap.size,3,none⟩=some (.string (bs T.word)):=by rw [aa hW];rfl
    have c4:W.cell? ⟨w.heap.size,4,none⟩=some (.int .i64 T.num):=by rw [aa hW];rfl
    have hBW:Below w.heap.size w W:=fp (((Below.refl _ w).alloc (Nat.le_refl _) _).trans (hb1.mono (by simp))) (Nat.le_refl _) lH mP hW1 hW2 hW3
    have yR:Hid _:=hBW
    clear hW lH mP hW1 hW2 hW3 hb1 hBW
    refine bodyPost_ret (v:=.agg #[.int .i64 T.kind,.int .i64 T.at_,.int .i64 T.aR,.string (bs T.word),.int .i64 T.num]) (by simp [results,Tryz.results130,go_sem,c0,c1,c2,c3,c4]) rfl ⟨rfl,yR.out⟩
   | false =>
    rw [hD] at Wd
    by_cases Bb:s[p]=35
    ·have d35:((s[p].toNat:Int) == 35)=true:=by rw [We];simpa using Bb
     have d40:((s[p].toNat:Int) == 40)=false:=by rw [Sl,Bb];rfl
     have d41:((s[p].toNat:Int) == 41)=false:=by rw [Qh,Bb];rfl
     obtain ⟨n,hn⟩:∃ n,n=run 48 57 (s.data.toList.drop (p+1)):=⟨_,rfl⟩
     have hrl:=qD 48 57 (s.data.toList.drop (p+1))
     rw [List.length_drop,dN,<- hn] at hrl
     have rT:=fun w=>nZ s p (p+1) n 3 6 w hs hn (by omega) (by omega)
     rw [<- Uk s p n hlt Bb hn] at rT
     generalize gM (j5 s p)=T at rT
     unfold iz at rT
     rw [Int.natCast_add] at rT
     clear Sl Qh We hL hD hn hrl Bb
     go_enter Tryz.func130,Tryz.ntmps130
     go_wp2_with (first
      | (go_at_call 135;refine (C9 _).mono ?_;rintro e w' ⟨rfl,rfl⟩)
      | (go_at_call 136;refine (hby _).mono ?_;rintro e w' ⟨rfl,rfl⟩)
      | (go_at_call 137;refine (hle _).mono ?_;rintro e w' ⟨rfl,rfl⟩)
      | (go_at_call 139;refine (Wd _).mono ?_;rintro e w' ⟨rfl,rfl⟩))
     refine (rT _).mono ?_
     rintro e w1 ⟨rfl,hb1⟩
     have hgb:w1.heap[w.heap.size]?=some (.cells #[.int .i64 0,.int .i64 0,.int .i64 0,.string ⟨#[]⟩,.int .i64 0] 159 (0,0)):=by
      rw [hb1.block w.heap.size (by simp)];exact aj _ _
     go_wp2_with (refine jq rfl 159 (.tmp 4) (.tmp 56) rfl w.heap.size #[.int .i64 T.kind,.int .i64 T.at_,.int .i64 T.aR,.string (bs T.word),.int .i64 T.num] rfl rfl 159 _ hgb Tryz.tN rfl (tO T) ?_;intro W hW lH mP hW1 hW2 hW3)
     have c0:W.cell? ⟨w.heap.size,0,none⟩=some (.int .i64 T.kind):=by rw [aa hW];rfl
     have c1:W.cell? ⟨w.heap.size,1,none⟩=some (.int .i64 T.at_):=by rw [aa hW];rfl
     have c2:W.cell? ⟨w.heap.size,2,none⟩=some (.int .i64 T.aR):=by rw [aa hW];rfl
     have c3:W.cell? ⟨w.heap.size,3,none⟩=some (.string (bs T.word)):=by rw [aa hW];rfl
     have c4:W.cell? ⟨w.heap.size,4,none⟩=some (.int .i64 T.num):=by rw [aa hW];rfl
     have hBW:Below w.heap.size w W:=fp (((Below.refl _ w).alloc (Nat.le_refl _) _).trans (hb1.mono (by simp))) (Nat.le_refl _) lH mP hW1 hW2 hW3
     have yR:Hid _:=hBW
     clear hW lH mP hW1 hW2 hW3 hb1 hBW
     refine bodyPost_ret (v:=.agg #[.int .i64 T.kind,.int .i64 T.at_,.int .i64 T.aR,.string (bs T.word),.int .i64 T.num]) (by simp [results,Tryz.results130,go_sem,c0,c1,c2,c3,c4]) rfl ⟨rfl,yR.out⟩
    ·have d35:((s[p].toNat:Int) == 35)=false:=by rw [We];simpa using Bb
     have htn:=Ml s p hlt hL hD Bb
     rw [htn]
     clear htn We hL hD Bb
     by_cases K8:s[p]=40
     ·have d40:((s[p].toNat:Int) == 40)=true:=by rw [Sl];simpa using K8
      have Pg:Hid _:=K8
      clear K8 Sl Qh
      go_enter Tryz.func130,Tryz.ntmps130
      go_wp2_with (first
       | (go_at_call 135;refine (C9 _).mono ?_;rintro e w' ⟨rfl,rfl⟩)
       | (go_at_call 136;refine (hby _).mono ?_;rintro e w' ⟨rfl,rfl⟩))
      refine bodyPost_ret (v:=.agg #[.int .i64 2,.int .i64 p,.int .i64 ((p:Int)+1),.string ⟨#[]⟩,.int .i64 0]) (by simp [results,Tryz.results130,go_sem]) rfl ⟨?_,(Below.refl _ _).alloc (Nat.le_refl _) _⟩
      first | rfl | (simp only [if_pos Pg.out];rfl) | (unfold iz;simp only [if_pos Pg.out];rfl)
     ·have d40:((s[p].toNat:Int) == 40)=false:=by rw [Sl];simpa using K8
      have Pg:Hid _:=K8
      clear K8 Sl
      by_cases K9:s[p]=41
      ·have d41:((s[p].toNat:Int) == 41)=true:=by rw [Qh];simpa using K9
       have Sm:Hid _:=K9
       clear K9 Qh
       go_enter Tryz.func130,Tryz.ntmps130
       go_wp2_with (first
        | (go_at_call 135;refine (C9 _).mono ?_;rintro e w' ⟨rfl,rfl⟩)
        | (go_at_call 136;refine (hby _).mono ?_;rintro e w' ⟨rfl,rfl⟩))
       refine bodyPost_ret (v:=.agg #[.int .i64 3,.int .i64 p,.int .i64 ((p:Int)+1),.string ⟨#[]⟩,.int .i64 0]) (by simp [results,Tryz.results130,go_sem]) rfl ⟨?_,(Below.refl _ _).alloc (Nat.le_refl _) _⟩
       first | rfl | (simp only [if_neg Pg.out,if_pos Sm.out];rfl) | (unfold iz;simp only [if_neg Pg.out,if_pos Sm.out];rfl)
      ·have d41:((s[p].toNat:Int) == 41)=false:=by rw [Qh];simpa using K9
       have Sm:Hid _:=K9
       clear K9 Qh
       go_enter Tryz.func130,Tryz.ntmps130
       go_wp2_with (first
        | (go_at_call 135;refine (C9 _).mono ?_;rintro e w' ⟨rfl,rfl⟩)
        | (go_at_call 136;refine (hby _).mono ?_;rintro e w' ⟨rfl,rfl⟩)
        | (go_at_call 137;refine (hle _).mono ?_;rintro e w' ⟨rfl,rfl⟩)
        | (go_at_call 139;refine (Wd _).mono ?_;rintro e w' ⟨rfl,rfl⟩))
       refine bodyPost_ret (v:=.agg #[.int .i64 1,.int .i64 p,.int .i64 ((p:Int)+1),.string ⟨#[]⟩,.int .i64 0]) (by simp [results,Tryz.results130,go_sem]) rfl ⟨?_,(Below.refl _ _).alloc (Nat.le_refl _) _⟩
       first | rfl | (simp only [if_neg Pg.out,if_neg Sm.out];rfl) | (unfold iz;simp only [if_neg Pg.out,if_neg Sm.out];rfl)
 ·have htk:gj s.data.toList p=[]:=vI s p (by omega)
  rw [htk]
  clear htk Ul
  go_enter Tryz.func130,Tryz.ntmps130
  go_wp2_with (go_at_call 135;refine (C9 _).mono ?_;rintro e w' ⟨rfl,rfl⟩)
  refine bodyPost_ret (v:=.agg #[.int .i64 0,.int .i64 s.size,.int .i64 s.size,.string ⟨#[]⟩,.int .i64 0]) (by simp [results,Tryz.results130,go_sem]) rfl ⟨rfl,(Below.refl _ _).alloc (Nat.le_refl _) _⟩
structure Gr (pE:PS->Int × PS) (st:PS):Prop where
 sc:(pE st).2.scope=st.scope
 l:(pE st).2.l.length<=st.l.length
 nd:(pE st).2.nodes.length+(pE st).2.l.length<=st.nodes.length+st.l.length
 op:(pE st).2.opened.length+4 * (pE st).2.l.length<=st.opened.length+4 * st.l.length+1
 up:st.opened.length<=(pE st).2.opened.length
def jZ (pE:PS->Int × PS) (m:Nat):Prop:=∀ st:PS,st.l.length<=m->Gr pE st
structure Gs (a b:PS) (j n:Nat):Prop where
 sc:b.scope=a.scope
 l:b.l.length<=a.l.length
 nd:b.nodes.length+b.l.length<=a.nodes.length+a.l.length+n
 op:b.opened.length+4 * b.l.length<=a.opened.length+4 * a.l.length+j
 up:a.opened.length<=b.opened.length
theorem Gs.refl (a:PS):Gs a a 0 0:=⟨rfl,Nat.le_refl _,Nat.le_refl _,Nat.le_refl _,Nat.le_refl _⟩
theorem Gs.trans {a b c:PS} {i j n m:Nat} (h:Gs a b i n) (h':Gs b c j m):Gs a c (i+j) (n+m) :=
 ⟨h'.sc.trans h.sc,by have:=h.l;have:=h'.l;omega,by have:=h.nd;have:=h'.nd;omega,by have:=h.op;have:=h'.op;omega,by have:=h.up;have:=h'.up;omega⟩
theorem mV (st:PS):Gs st st.tail 0 0:=by
 refine ⟨rfl,nY st,?_,?_,Nat.le_refl _⟩
 ·have:=nY st;simp only [PS.tail] at this ⊢;omega
 ·have:=nY st;simp only [PS.tail] at this ⊢;omega
theorem vJ (a:Nat) (st:PS):Gs st (st.fail a) 0 0:=by
 unfold PS.fail
 split
 ·exact Gs.refl _
 ·exact ⟨rfl,by simp,by simp,by simp,Nat.le_refl _⟩
theorem gU (len k:Nat) (st:PS):Gs st (st.expect len k) 0 0:=by
 unfold PS.expect
 split
 ·exact (mV st).trans (vJ _ _)
 ·exact mV st
theorem sB {pE:PS->Int × PS} {m:Nat} (h:jZ pE m) (st:PS) (hl:st.l.length<=m):Gs st (pE st).2 1 0 :=
 have g:=h st hl
 ⟨g.sc,g.l,g.nd,g.op,g.up⟩
theorem Hn {pE:PS->Int × PS} {m:Nat} (h:jZ pE m) (w:List UInt8) (src:Int) (st:PS) (hl:st.l.length<=m):Gs st (eZ pE w src st).2 1 0:=by
 have g:=h { st with scope:=st.scope++[(w,src)] } hl
 refine ⟨?_,g.l,g.nd,g.op,g.up⟩
 unfold eZ
 simp only [g.sc,List.dropLast_concat]
theorem vK {pE:PS->Int × PS} {m:Nat} (h:jZ pE m) (n:NR) (st:PS) (hl:st.l.length<=m):Gs st (vY pE n st).2 1 0:=sB h st hl
theorem sC {pE:PS->Int × PS} {m:Nat} (h:jZ pE m) (n:NR) (st:PS) (hl:st.l.length<=m):Gs st (uy pE n st).2 2 0 :=
 have g:=vK h n st hl
 g.trans (sB h _ (Nat.le_trans g.l hl))
theorem Qi {pE:PS->Int × PS} {m:Nat} (h:jZ pE m) (n:NR) (st:PS) (hl:st.l.length<=m):Gs st (Cu pE n st).2 3 0 :=
 have g:=sC h n st hl
 g.trans (sB h _ (Nat.le_trans g.l hl))
theorem Um {pE:PS->Int × PS} {m:Nat} (h:jZ pE m) (len:Nat) (n:NR) (st:PS) (hl:st.l.length<=m):Gs st (PD len pE n st).2 2 0:=by
 have g1:=gU len 4 st
 have g2:=sB h (st.expect len 4) (Nat.le_trans g1.l hl)
 have g3:=Hn h (eY len st.l).word (pE (st.expect len 4)).1 (pE (st.expect len 4)).2 (by have:=g1.l;have:=g2.l;omega)
 exact (g1.trans g2).trans g3
theorem Qj {pE:PS->Int × PS} {m:Nat} (h:jZ pE m) (len:Nat) (n:NR) (st:PS) (hl:st.l.length<=m):Gs st (GW len pE n st).2 3 0:=by
 have g0:=sB h st hl
 have g1:=gU len 4 (pE st).2
 have g2:=sB h ((pE st).2.expect len 4) (by have:=g0.l;have:=g1.l;omega)
 have g3:=Hn h (eY len (pE st).2.l).word (pE ((pE st).2.expect len 4)).1 (pE ((pE st).2.expect len 4)).2 (by have:=g0.l;have:=g1.l;have:=g2.l;omega)
 exact ((g0.trans g1).trans g2).trans g3
theorem Gs.le {a b:PS} {j j' n n':Nat} (h:Gs a b j n) (hj:j<=j') (hn:n<=n'):Gs a b j' n':=⟨h.sc,h.l,by have:=h.nd;omega,by have:=h.op;omega,h.up⟩
theorem Ho {pE:PS->Int × PS} {m:Nat} (h:jZ pE m) (ae:Bool) (len:Nat) (n:NR) (st:PS) (hl:st.l.length<=m):Gs st (nX ae len pE n st).2 3 0:=by
 have hr:Gs st (j6 len n st).2 0 0:=gU len 6 st
 have hrl:=hr.l
 unfold nX
 split
 ·exact (Um h len n st hl).le (by omega) (by omega)
 split
 ·exact Qj h len n st hl
 split
 ·split
  ·exact (hr.trans (sC h _ _ (by omega))).le (by omega) (by omega)
  ·exact (sC h n st hl).le (by omega) (by omega)
 split
 ·exact (hr.trans (vK h _ _ (by omega))).le (by omega) (by omega)
 split
 ·exact (vK h n st hl).le (by omega) (by omega)
 split
 ·exact Qi h n st hl
 ·exact (sC h n st hl).le (by omega) (by omega)
theorem Un (n:NR) (st:PS):Gs st (st.add n) 0 1:=⟨rfl,Nat.le_refl _,by simp [PS.add];omega,Nat.le_refl _,Nat.le_refl _⟩
theorem wU {pE:PS->Int × PS} {m:Nat} (h:jZ pE m) (ae:Bool) (len:Nat) (n:NR) (st:PS) (hl:st.l.length<=m):Gs st (gF ae len pE n st).2 3 1:=by
 have ht:=mV st
 have htl:=ht.l
 unfold gF
 simp only
 split
 ·exact (ht.trans (vJ _ _)).le (by omega) (by omega)
 ·have h1:=Ho h ae len { n with form:=cP (eY len st.l).kind } st.tail (by omega)
  exact ((ht.trans h1).trans (gU len 3 _)).trans (Un _ _)
theorem Bi {pB:NR->PS->Int × PS} (len:Nat) (st:PS) (h:∀ n,st.l≠[]->Gs st.tail (pB n st.tail).2 3 1) :
  (iw len pB st).2.scope=st.scope/\(iw len pB st).2.l.length<=st.l.length/\(iw len pB st).2.nodes.length+(iw len pB st).2.l.length<=st.nodes.length+st.l.length /\
   (iw len pB st).2.opened.length+4 * (iw len pB st).2.l.length<=st.opened.length+4 * st.l.length/\st.opened.length<=(iw len pB st).2.opened.length:=by
 cases hl:st.l with
 | nil =>
  have e:iw len pB st=(-1,st.tail.fail len):=by simp [iw,hl,eY]
  rw [e]
  have g:=(mV st).trans (vJ len st.tail)
  have g1:=g.sc;have g2:=g.l;have g3:=g.nd;have g4:=g.op;have g5:=g.up
  rw [hl] at g2 g3 g4
  exact ⟨g1,g2,by omega,by omega,g5⟩
 | cons t r =>
  have ht:st.tail.l=r:=by simp [PS.tail,hl]
  unfold iw
  rw [hl]
  simp only [List.length_cons]
  split
  ·refine ⟨rfl,?_,?_,?_,Nat.le_refl _⟩ <;> simp only [PS.add,PS.tail,hl,List.tail_cons,List.length_append,List.length_cons,List.length_nil] <;> omega
  split
  ·refine ⟨rfl,?_,?_,?_,Nat.le_refl _⟩ <;> simp only [PS.add,PS.tail,hl,List.tail_cons,List.length_append,List.length_cons,List.length_nil] <;> omega
  split
  ·have g:=h (je (eY len (t::r))) (by rw [hl];simp)
   have g1:=g.sc;have g2:=g.l;have g3:=g.nd;have g4:=g.op;have g5:=g.up
   rw [ht] at g2 g3 g4
   have e1:st.tail.nodes=st.nodes:=rfl
   have e2:st.tail.opened=st.opened:=rfl
   rw [e1] at g3
   rw [e2] at g4 g5
   refine ⟨g1,?_,?_,?_,g5⟩ <;> omega
  ·have g:=(mV st).trans (vJ (eY len (t::r)).at_ st.tail)
   have g1:=g.sc;have g2:=g.l;have g3:=g.nd;have g4:=g.op;have g5:=g.up
   rw [hl] at g2 g3 g4
   simp only [List.length_cons] at g2 g3 g4
   exact ⟨g1,by omega,by omega,by omega,g5⟩
theorem Hp {f:PS->Int × PS} (st:PS) (h:let a:={ st with opened:=st.opened++[-1] };(f a).2.scope=a.scope/\(f a).2.l.length<=a.l.length/\(f a).2.nodes.length+(f a).2.l.length<=a.nodes.length+a.l.length /\
   (f a).2.opened.length+4 * (f a).2.l.length<=a.opened.length+4 * a.l.length/\a.opened.length<=(f a).2.opened.length):Gr (iy f) st:=by
 simp only at h
 obtain ⟨h1,h2,h3,h4,h5⟩:=h
 refine ⟨h1,h2,h3,?_,?_⟩
 ·unfold iy;simp only [List.length_set]
  simp only [List.length_append,List.length_cons,List.length_nil] at h4;omega
 ·unfold iy;simp only [List.length_set]
  simp only [List.length_append,List.length_cons,List.length_nil] at h5;omega
theorem Qk (ae:Bool) (len:Nat):∀ n:Nat,jZ (fe ae len n) n:=by
 intro n
 induction n with
 | zero =>
  intro st hl
  unfold fe
  refine Hp st (Bi len _ (fun n hn=>absurd (List.length_eq_zero_iff.1 (by simpa using hl)) hn))
 | succ m ih =>
  intro st hl
  unfold fe
  refine Hp st (Bi len _ (fun n hn=>wU ih ae len n _ ?_))
  simp [PS.tail];omega
theorem Mn (w:World) (p:Addr) (u:Value):w.grownBy (w.setCell p u) (some p.block) :=
 ⟨rfl,rfl,rfl,by simp [World.setCell],fun k _ hk=>Below.heap_setCell _ _ _ _ (fun e=>hk (by rw [e]))⟩
open Go.Lib (decDigits)
inductive Ty where
 | n
 | p (r:Nat) (a b:Ty)
 deriving DecidableEq
def Ty.txt:Ty->List UInt8
 | .n=>[110]
 | .p r a b=>60::(decDigits r++58::(a.txt++(b.txt++[62])))
def Ty.size:Ty->Nat
 | .n=>0
 | .p _ a b=>a.size+b.size+1
def Ty.bare:Ty->Ty
 | .n=>.n
 | .p _ a b=>.p 0 a.bare b.bare
def wy (c:UInt8):Bool:=decide (48<=c.toNat) && decide (c.toNat<=57)
theorem zU (u:Nat):∀ c∈decDigits u,wy c=true:=by
 induction u using Nat.strongRecOn with
 | _ u ih =>
  rw [decDigits]
  have key:∀ k,k < 10->wy (UInt8.ofNat (48+k))=true:=by
   intro k hk
   unfold wy
   have:(UInt8.ofNat (48+k)).toNat=48+k:=by simp;omega
   rw [this];simp;omega
  split
  ·intro c hc;rw [List.mem_singleton] at hc;subst hc;exact key u (by omega)
  ·intro c hc
   rw [List.mem_append] at hc
   rcases hc with hc | hc
   ·exact ih (u / 10) (by omega) c hc
   ·rw [List.mem_singleton] at hc;subst hc;exact key _ (by omega)
theorem aU (l m:List UInt8):((bs l).toList == m)=(l == m):=by rw [Lib.toList_data];rfl
theorem eB (l m:List UInt8):bs l++bs m=bs (l++m):=by
 apply RU;simp [bs]
def Ty.regs:Ty->Prop
 | .n=>True
 | .p r a b=>r < 1000/\a.regs/\b.regs
def Ty.fit (t:Ty):Prop:=t.size<=127/\t.regs
structure dM where
 e:Nat
 at_:Nat
 of:List (List UInt8)
abbrev aQ:=List (List UInt8 × Ty)
def look (env:aQ) (s:List UInt8):Option Ty:=(env.reverse.find? (fun x=>x.1 == s)).map (·.2)
def cZ (st:dM) (e p:Nat):dM:=if st.e=0 then { st with e:=e,at_:=p } else st
def fin (id p:Nat) (x:Ty × dM):Ty × dM :=
 let st:=if x.2.e=0/\63 < x.1.size then cZ x.2 6 p else x.2
 (x.1,{ st with of:=st.of.set id x.1.txt })
def bD (cls:List Nat) (k:Kw) (p site:Nat) (ks:List Ty) (st:dM):Ty × dM :=
 match k,ks with
 | .new,a::_=>(a,st)
 | .pair,[a,b]=>(.p (cls.getD site 0) a b,st)
 | .fst,.p _ a _::_=>(a,st)
 | .snd,.p _ _ b::_=>(b,st)
 | .dQ,[a,b,c]=>if a=.n/\b.bare=c.bare then (b,st) else (.n,cZ st 5 p)
 | .loop,[a,b,c]=>if a=.n/\b.bare=c.bare then (b,st) else (.n,cZ st 5 p)
 | .add,[a,b]=>if a=.n/\b=.n then (.n,st) else (.n,cZ st 5 p)
 | .sub,[a,b]=>if a=.n/\b=.n then (.n,st) else (.n,cZ st 5 p)
 | .less,[a,b]=>if a=.n/\b=.n then (.n,st) else (.n,cZ st 5 p)
 | _,_=>(.n,cZ st 5 p)
mutual
def aD (cls:List Nat):PT->Nat->Nat->aQ->dM->Ty × dM
 | .num p _,id,_,_,st=>fin id p (.n,st)
 | .name p s,id,_,env,st=>fin id p (match look env s with
  | some t=>(t,st)
  | none=>(.n,cZ st 4 p))
 | .node p k nm _ kids,id,site,env,st =>
  fin id p (if k=.aT then dH cls nm kids (id+1) site env st
   else
    let x:=if k=.loop then aW cls nm kids (id+1) site env st else bh cls kids (id+1) (site+if k=.pair then 1 else 0) env st
    if x.2.e≠0 then (.n,x.2) else bD cls k p site x.1 x.2)
def bh (cls:List Nat):List PT->Nat->Nat->aQ->dM->List Ty × dM
 | [],_,_,_,st=>([],st)
 | a::r,id,site,env,st =>
  let x:=aD cls a id site env st
  let y:=bh cls r (id+a.cnt) (site+a.bK) env x.2
  (x.1::y.1,y.2)
def dH (cls:List Nat) (nm:List UInt8):List PT->Nat->Nat->aQ->dM->Ty × dM
 | [a,b],id,site,env,st =>
  let x:=aD cls a id site env st
  aD cls b (id+a.cnt) (site+a.bK) (env++[(nm,x.1)]) x.2
 | _,_,_,_,st=>(.n,st)
def aW (cls:List Nat) (nm:List UInt8):List PT->Nat->Nat->aQ->dM->List Ty × dM
 | [a,b,c],id,site,env,st =>
  let x:=aD cls a id site env st
  let y:=aD cls b (id+a.cnt) (site+a.bK) env x.2
  let z:=aD cls c (id+a.cnt+b.cnt) (site+a.bK+b.bK) (env++[(nm,y.1)]) y.2
  ([x.1,y.1,z.1],z.2)
 | _,_,_,_,st=>([],st)
end
mutual
theorem PT.ind {P:PT->Prop} (h1:∀ p s,P (.num p s)) (h2:∀ p s,P (.name p s)) (h3:∀ p k nm rg kids,(∀ x∈kids,P x)->P (.node p k nm rg kids)):∀ t,P t
 | .num p s=>h1 p s
 | .name p s=>h2 p s
 | .node p k nm rg kids=>h3 p k nm rg kids (PT.XK h1 h2 h3 kids)
theorem PT.XK {P:PT->Prop} (h1:∀ p s,P (.num p s)) (h2:∀ p s,P (.name p s)) (h3:∀ p k nm rg kids,(∀ x∈kids,P x)->P (.node p k nm rg kids)):∀ l:List PT,∀ x∈l,P x
 | []=>fun x hx=>by simp at hx
 | t::r=>fun x hx=>by
  have ht:=PT.ind h1 h2 h3 t
  have hr:=PT.XK h1 h2 h3 r
  rcases List.mem_cons.1 hx with h | h
  ·rw [h];exact ht
  ·exact hr x h
end
theorem Hq (t:PT):0 < t.cnt:=by cases t <;> simp [PT.cnt] <;> omega
theorem tM (ts:List PT) (i:Nat):az (ts.take i)<=az ts:=by
 induction ts generalizing i with
 | nil=>simp
 | cons a r ih=>cases i with
  | zero=>simp [az]
  | succ i=>have:=ih i;simp [az];omega
def apart (u v:Value):Prop:=∀ g,u.ownBlock=some g->v.ownBlock≠some g
theorem apart.symm {u v:Value} (h:apart u v):apart v u:=fun g hg hu=>h g hu hg
def fF (s:ByteArray) (ae:Bool) (fr:Nat) (fl:Bool) (a:Nat) (sv nv ov:Value):Array Value:=#[.string s,.bool ae,.int .i64 fr,.bool fl,.int .i64 a,sv,nv,ov]
def qg (n:NR):List Value:=[.int .i64 n.form,.int .i64 n.at_,.int .i64 n.aR,.int .i64 n.num,.string (bs n.word),.int .i64 n.region,.int .i64 n.source,.int .i64 n.p0,.int .i64 n.p1,.int .i64 n.p2]
def Ad (x:List UInt8 × Int):List Value:=[.string (bs x.1),.int .i64 x.2]
def nL (i:Int):Value:=.int .i64 i
structure eC (s:ByteArray) (ae:Bool) (pb:Nat) (w:World) (sv nv ov:Value) (st:PS):Prop where
 y:∃ fr,fr<=s.size/\gj s.data.toList fr=st.l/\w.heap[pb]?=some (.cells (fF s ae fr st.fl.isSome (st.fl.getD 0) sv nv ov) 127 (0,0))
 sc:w.ownsRow 0 190 2 sv st.scope.length (st.scope.flatMap Ad)
 nd:w.ownsRow 0 108 10 nv st.nodes.length (st.nodes.flatMap qg)
 op:w.ownsRow 0 3 1 ov st.opened.length (st.opened.map nL)
 sy:sv.ownBlock≠some pb
 ny:nv.ownBlock≠some pb
 oy:ov.ownBlock≠some pb
 sn:apart sv nv
 so:apart sv ov
 no:apart nv ov
structure bz (pb nb:Nat) (w w':World) (sv nv ov fC bB fH:Value):Prop where
 os:w'.os=w.os
 tape:w'.tape=w.tape
 output:w'.output=w.output
 size:w.heap.size<=w'.heap.size
 blk:∀ k,k < w.heap.size->k≠pb->k≠nb->sv.ownBlock≠some k->nv.ownBlock≠some k->ov.ownBlock≠some k->w'.heap[k]?=w.heap[k]?
 s:∀ g,fC.ownBlock=some g->sv.ownBlock=some g\/w.heap.size<=g
 n:∀ g,bB.ownBlock=some g->nv.ownBlock=some g\/w.heap.size<=g
 o:∀ g,fH.ownBlock=some g->ov.ownBlock=some g\/w.heap.size<=g
theorem bz.refl (pb nb:Nat) (w:World) (sv nv ov:Value):bz pb nb w w sv nv ov sv nv ov:=⟨rfl,rfl,rfl,Nat.le_refl _,fun _ _ _ _ _ _ _=>rfl,fun _ h=>Or.inl h,fun _ h=>Or.inl h,fun _ h=>Or.inl h⟩
theorem bz.trans {pb nb:Nat} {w w1 w2:World} {sv nv ov zk tq u4 Hr cz Fx:Value} (h:bz pb nb w w1 sv nv ov zk tq u4) (h':bz pb nb w1 w2 zk tq u4 Hr cz Fx):bz pb nb w w2 sv nv ov Hr cz Fx:=by
 refine ⟨h'.os.trans h.os,h'.tape.trans h.tape,h'.output.trans h.output,Nat.le_trans h.size h'.size,?_,?_,?_,?_⟩
 ·intro k hk hp hnb hs hn ho
  rw [h'.blk k (Nat.lt_of_lt_of_le hk h.size) hp hnb (fun e=>by rcases h.s k e with e | e;exact hs e;omega) (fun e=>by rcases h.n k e with e | e;exact hn e;omega) (fun e=>by rcases h.o k e with e | e;exact ho e;omega)]
  exact h.blk k hk hp hnb hs hn ho
 ·intro g hg
  rcases h'.s g hg with e | e
  ·exact h.s g e
  ·exact Or.inr (Nat.le_trans h.size e)
 ·intro g hg
  rcases h'.n g hg with e | e
  ·exact h.n g e
  ·exact Or.inr (Nat.le_trans h.size e)
 ·intro g hg
  rcases h'.o g hg with e | e
  ·exact h.o g e
  ·exact Or.inr (Nat.le_trans h.size e)
theorem bz.below {w w':World} (pb nb:Nat) (sv nv ov:Value) (h:Below w.heap.size w w'):bz pb nb w w' sv nv ov sv nv ov:=⟨h.os,h.tape,h.output,h.size,fun k hk _ _ _ _ _=>h.block k hk,fun _ h=>Or.inl h,fun _ h=>Or.inl h,fun _ h=>Or.inl h⟩
theorem bz.nb {pb nb:Nat} {w w':World} {sv nv ov fC bB fH:Value} (h:bz pb pb w w' sv nv ov fC bB fH):bz pb nb w w' sv nv ov fC bB fH:=⟨h.os,h.tape,h.output,h.size,fun k hk hp _ hs hn ho=>h.blk k hk hp hp hs hn ho,h.s,h.n,h.o⟩
theorem eC.move {s:ByteArray} {ae:Bool} {pb:Nat} {w w':World} {sv nv ov:Value} {st:PS} (h:eC s ae pb w sv nv ov st) (l:List Tk) (fl:Option Nat)
  (hs:∀ k,sv.ownBlock=some k->w'.heap[k]?=w.heap[k]?) (hn:∀ k,nv.ownBlock=some k->w'.heap[k]?=w.heap[k]?) (ho:∀ k,ov.ownBlock=some k->w'.heap[k]?=w.heap[k]?)
  (hy:∃ fr,fr<=s.size/\gj s.data.toList fr=l/\w'.heap[pb]?=some (.cells (fF s ae fr fl.isSome (fl.getD 0) sv nv ov) 127 (0,0))) :
  eC s ae pb w' sv nv ov { st with l:=l,fl:=fl } :=
 ⟨hy,ax h.sc hs,ax h.nd hn,ax h.op ho,h.sy,h.ny,h.oy,h.sn,h.so,h.no⟩
theorem eC.slt {s:ByteArray} {ae:Bool} {pb:Nat} {w:World} {sv nv ov:Value} {st:PS} (h:eC s ae pb w sv nv ov st):(∀ k,sv.ownBlock=some k->k < w.heap.size)/\(∀ k,nv.ownBlock=some k->k < w.heap.size)/\(∀ k,ov.ownBlock=some k->k < w.heap.size)/\pb < w.heap.size :=
 ⟨fun k hk=>(h.sc.lt k hk).2,fun k hk=>(h.nd.lt k hk).2,fun k hk=>(h.op.lt k hk).2,by obtain ⟨fr,_,_,hy⟩:=h.y;exact af hy⟩
theorem eC.below {s:ByteArray} {ae:Bool} {pb:Nat} {w w':World} {sv nv ov:Value} {st:PS} (h:eC s ae pb w sv nv ov st) (hb:Below w.heap.size w w'):eC s ae pb w' sv nv ov st:=by
 obtain ⟨h1,h2,h3,h4⟩:=h.slt
 obtain ⟨fr,hf1,hf2,hf3⟩:=h.y
 exact eC.move h st.l st.fl (fun k hk=>hb.block k (h1 k hk)) (fun k hk=>hb.block k (h2 k hk)) (fun k hk=>hb.block k (h3 k hk)) ⟨fr,hf1,hf2,by rw [hb.block pb h4];exact hf3⟩
theorem jK {w w2:World} {A:Obj} {cs:Array Value} {t:TypeId} (hb:Below ((w.alloc A).alloc (.cells cs t)).drew.heap.size ((w.alloc A).alloc (.cells cs t)).drew w2):w2.heap[w.heap.size+1]?=some (.cells cs t (0,0)):=by
 rw [hb.block (w.heap.size+1) (by show w.heap.size+1 < ((w.alloc A).alloc (.cells cs t)).heap.size;simp)]
 have h:=aj (w.alloc A) (.cells cs t)
 have e:(w.alloc A).heap.size=w.heap.size+1:=by simp
 rw [e] at h
 exact h
theorem fW {w:World} {g:Nat} {t:TypeId} {a b c d e:Value} (h:w.heap[g]?=some (.cells #[a,b,c,d,e] t (0,0))):w.cell? ⟨g,0,none⟩=some a/\w.cell? ⟨g,1,none⟩=some b/\w.cell? ⟨g,2,none⟩=some c/\w.cell? ⟨g,3,none⟩=some d/\w.cell? ⟨g,4,none⟩=some e :=
 ⟨by rw [aa h];rfl,by rw [aa h];rfl,by rw [aa h];rfl,by rw [aa h];rfl,by rw [aa h];rfl⟩
theorem Mo (s:ByteArray) (a:Nat) (ha:a<=s.size):gj s.data.toList (eY s.size (gj s.data.toList a)).aR=(gj s.data.toList a).tail/\(eY s.size (gj s.data.toList a)).aR<=s.size:=by
 obtain ⟨h1,h2⟩:=C6 s s.size a (by omega)
 have kN:=Ln (s.data.toList.drop a)
 rw [List.length_drop,dN] at kN
 rw [<- h1]
 obtain ⟨p,hp⟩:∃ p,p=a+uW (s.data.toList.drop a):=⟨_,rfl⟩
 rw [<- hp]
 have h3:∀ h:p < s.size,eu s[p]=false:=by subst hp;exact h2
 by_cases hlt:p < s.size
 ·have ht:=Hk s p hlt (h3 hlt)
  rw [ht]
  have hlen:=Cr s p hlt
  have hle:=qE (s.data.toList.drop p) (by rw [drop_cons s p hlt];simp)
  rw [List.length_drop,dN] at hle
  have hb:(eY s.size (j5 s p::gj s.data.toList (p+(aK (s.data.toList.drop p)).1))).aR=p+(aK (s.data.toList.drop p)).1:=by
   show (j5 s p).at_+(j5 s p).s.length=_
   rw [hlen];rfl
  rw [hb]
  exact ⟨rfl,by omega⟩
 ·have ht:=vI s p (by omega)
  rw [ht]
  exact ⟨vI s s.size (Nat.le_refl _),Nat.le_refl _⟩
theorem Da {w w2:World} {T:TN} {A:Array Value} {t:TypeId} (hb:Below ((w.alloc (.cells A t)).drew).heap.size ((w.alloc (.cells A t)).drew) w2) :
  ∃ g,w.heap.size < g/\Value.pointer (some ⟨w2.heap.size,0,none⟩)=.pointer (some ⟨g,0,none⟩)/\(w2.alloc (.cells #[.int .i64 T.kind,.int .i64 T.at_,.int .i64 T.aR,.string (bs T.word),.int .i64 T.num] t)).heap[g]?=some (.cells #[.int .i64 T.kind,.int .i64 T.at_,.int .i64 T.aR,.string (bs T.word),.int .i64 T.num] t (0,0)) /\
   (w2.alloc (.cells #[.int .i64 T.kind,.int .i64 T.at_,.int .i64 T.aR,.string (bs T.word),.int .i64 T.num] t)).heap[w.heap.size]?=some (.cells A t (0,0))/\Below w.heap.size w (w2.alloc (.cells #[.int .i64 T.kind,.int .i64 T.at_,.int .i64 T.aR,.string (bs T.word),.int .i64 T.num] t)):=by
 have hs:w.heap.size+1<=w2.heap.size:=by have:=hb.size;simpa using this
 have h0:w2.heap[w.heap.size]?=some (.cells A t (0,0)):=by
  rw [hb.block w.heap.size (by show w.heap.size < (w.alloc (.cells A t)).heap.size;simp)]
  exact aj w (.cells A t)
 refine ⟨w2.heap.size,by omega,rfl,aj _ _,aN _ h0,?_⟩
 have h1:Below w.heap.size w (w.alloc (.cells A t)).drew:=((Below.refl _ w).alloc (Nat.le_refl _) (.cells A t)).trans ⟨rfl,rfl,rfl,Nat.le_refl _,fun _ _=>rfl⟩
 exact (h1.trans (hb.mono (by show w.heap.size<=(w.alloc (.cells A t)).heap.size;simp))).alloc (by omega) _
theorem Db {w w2:World} {T:TN} {A:Array Value} {a b c d e:Value} {t:TypeId} (hb:Below ((w.alloc (.cells A t)).alloc (.cells #[a,b,c,d,e] t)).drew.heap.size ((w.alloc (.cells A t)).alloc (.cells #[a,b,c,d,e] t)).drew w2) :
  ∃ g,w.heap.size < g/\Value.pointer (some ⟨w.heap.size+1,0,none⟩)=.pointer (some ⟨g,0,none⟩)/\(((((w2.setCell ⟨w.heap.size+1,0,none⟩ (.int .i64 T.kind)).setCell ⟨w.heap.size+1,1,none⟩ (.int .i64 T.at_)).setCell ⟨w.heap.size+1,2,none⟩ (.int .i64 T.aR)).setCell ⟨w.heap.size+1,3,none⟩ (.string (bs T.word))).setCell ⟨w.heap.size+1,4,none⟩ (.int .i64 T.num)).heap[g]?=some (.cells #[.int .i64 T.kind,.int .i64 T.at_,.int .i64 T.aR,.string (bs T.word),.int .i64 T.num] t (0,0)) /\
   (((((w2.setCell ⟨w.heap.size+1,0,none⟩ (.int .i64 T.kind)).setCell ⟨w.heap.size+1,1,none⟩ (.int .i64 T.at_)).setCell ⟨w.heap.size+1,2,none⟩ (.int .i64 T.aR)).setCell ⟨w.heap.size+1,3,none⟩ (.string (bs T.word))).setCell ⟨w.heap.size+1,4,none⟩ (.int .i64 T.num)).heap[w.heap.size]?=some (.cells A t (0,0)) /\
   Below w.heap.size w (((((w2.setCell ⟨w.heap.size+1,0,none⟩ (.int .i64 T.kind)).setCell ⟨w.heap.size+1,1,none⟩ (.int .i64 T.at_)).setCell ⟨w.heap.size+1,2,none⟩ (.int .i64 T.aR)).setCell ⟨w.heap.size+1,3,none⟩ (.string (bs T.word))).setCell ⟨w.heap.size+1,4,none⟩ (.int .i64 T.num)):=by
 have hq:=jK hb
 have h0:w2.heap[w.heap.size]?=some (.cells A t (0,0)):=by
  rw [hb.block w.heap.size (by show w.heap.size < ((w.alloc (.cells A t)).alloc (.cells #[a,b,c,d,e] t)).heap.size;simp;omega)]
  exact aN _ (aj w (.cells A t))
 refine ⟨w.heap.size+1,by omega,rfl,?_,?_,?_⟩
 ·exact ay (ay (ay (ay (ay hq 0 _) 1 _) 2 _) 3 _) 4 _
 ·rw [ak _ _ (by simp only;omega),ak _ _ (by simp only;omega),ak _ _ (by simp only;omega),ak _ _ (by simp only;omega),ak _ _ (by simp only;omega)]
  exact h0
 ·have h1:Below w.heap.size w ((w.alloc (.cells A t)).alloc (.cells #[a,b,c,d,e] t)).drew:=(((Below.refl _ w).alloc (Nat.le_refl _) (.cells A t)).alloc (by simp) (.cells #[a,b,c,d,e] t)).trans ⟨rfl,rfl,rfl,Nat.le_refl _,fun _ _=>rfl⟩
  have h2:=h1.trans (hb.mono (by show w.heap.size<=((w.alloc (.cells A t)).alloc (.cells #[a,b,c,d,e] t)).heap.size;simp;omega))
  exact ((((h2.setCell (p:=⟨w.heap.size+1,0,none⟩) (by simp) _).setCell (p:=⟨w.heap.size+1,1,none⟩) (by simp) _).setCell (p:=⟨w.heap.size+1,2,none⟩) (by simp) _).setCell (p:=⟨w.heap.size+1,3,none⟩) (by simp) _).setCell (p:=⟨w.heap.size+1,4,none⟩) (by simp) _
theorem wV (s:ByteArray) (ae:Bool) (pb:Nat) (w:World) (sv nv ov:Value) (st:PS) (hs:s.size<=9000) (h:eC s ae pb w sv nv ov st) :
  Calls Tryz.prog 118 #[ptr pb] w fun v w'=>v=.returned (iz (eY s.size st.l))/\bz pb pb w w' sv nv ov sv nv ov/\eC s ae pb w' sv nv ov st.tail:=by
 obtain ⟨fr,hf1,hf2,hf3⟩:=h.y
 obtain ⟨l1,l2,l3,l4⟩:=h.slt
 have iH:=fun w=>Mm s fr w hs hf1
 have hnb:=Mo s fr hf1
 rw [hf2] at iH hnb
 have y0:w.cell? ⟨pb,0,none⟩=some (.string s):=by rw [aa hf3];rfl
 have y2:w.cell? ⟨pb,2,none⟩=some (.int .i64 fr):=by rw [aa hf3];rfl
 have KX:Hid _:=hnb
 have HH:Hid _:=h
 have dK:Hid _:=hf3
 have R6:Hid _:=l1
 have XL:Hid _:=l2
 have XM:Hid _:=l3
 generalize eY s.size st.l=T at iH KX
 unfold iz at iH
 clear hf1 hf2 hf3 hnb h l1 l2 l3
 show Calls _ _ #[Value.pointer (some ⟨pb,0,none⟩)] w _
 go_enter Tryz.func118,Tryz.ntmps118
 go_upto_region 1 with fail
 go_cut [3] from 4 to 12 (fun t3 wx=>∃ g,w.heap.size < g/\t3=.pointer (some ⟨g,0,none⟩)/\wx.heap[g]?=some (.cells #[.int .i64 T.kind,.int .i64 T.at_,.int .i64 T.aR,.string (bs T.word),.int .i64 T.num] 159 (0,0)) /\
   wx.heap[w.heap.size]?=some (.cells #[.int .i64 0,.int .i64 0,.int .i64 0,.string ⟨#[]⟩,.int .i64 0] 159 (0,0))/\Below w.heap.size w wx)
 case first =>
  go_region_with (go_at_call 130;refine (iH _).mono ?_;rintro e w2 ⟨rfl,hb2⟩;(try (have hq:=jK hb2;obtain ⟨c0,c1,c2,c3,c4⟩:=fW hq;have f0:=ag hq 0;have f1:=ag hq 1;have f2:=ag hq 2;have f3:=ag hq 3;have f4:=ag hq 4)))
  all_goals (go_wp2_with fail;go_meet)
  all_goals first
   | exact Da hb2
   | exact Db hb2
 case rest =>
 obtain ⟨g,hg,rfl,hcg,Jy,hbc⟩:=hcut
 obtain ⟨c0,c1,c2,c3,c4⟩:=fW hcg
 have yc:wc.heap[pb]?=some (.cells (fF s ae fr st.fl.isSome (st.fl.getD 0) sv nv ov) 127 (0,0)):=by rw [hbc.block pb l4];exact dK.out
 have z2:wc.cell? ⟨pb,2,none⟩=some (.int .i64 fr):=by rw [aa yc];rfl
 have zf2:wc.frozen? ⟨pb,2,none⟩=false:=ag yc 2
 have n8:g≠pb:=by omega
 have Pf:w.heap.size≠pb:=by omega
 have eH:(wc.setCell ⟨pb,2,none⟩ (.int .i64 T.aR)).heap[w.heap.size]?=some (.cells #[.int .i64 0,.int .i64 0,.int .i64 0,.string ⟨#[]⟩,.int .i64 0] 159 (0,0)):=by
  rw [ak _ _ (by simp only;omega)];exact Jy
 have HYC:Hid _:=yc
 have P3:Hid _:=hbc
 have hgw:=af hcg
 clear yc hbc Jy hcg y0 y2 iH
 go_wp2_with (refine jq rfl 159 (.tmp 2) (.tmp 18) rfl w.heap.size #[.int .i64 T.kind,.int .i64 T.at_,.int .i64 T.aR,.string (bs T.word),.int .i64 T.num] rfl rfl 159 _ eH Tryz.tN rfl (tO T) ?_;intro W hW lH mP hW1 hW2 hW3)
 obtain ⟨d0,d1,d2,d3,d4⟩:=fW hW
 refine bodyPost_ret (v:=.agg #[.int .i64 T.kind,.int .i64 T.at_,.int .i64 T.aR,.string (bs T.word),.int .i64 T.num]) (by simp [results,Tryz.results118,go_sem,d0,d1,d2,d3,d4]) rfl ⟨rfl,?_,?_⟩
 ·have hb:=P3.out
  refine ⟨hW1.trans hb.os,hW2.trans hb.tape,hW3.trans hb.output,by rw [lH];simp only [World.setCell,Array.size_modify];exact hb.size,?_,fun _ h=>Or.inl h,fun _ h=>Or.inl h,fun _ h=>Or.inl h⟩
  intro k hk hkp _ _ _ _
  rw [mP k (by omega),ak _ _ (by simpa using hkp)]
  exact hb.block k hk
 ·have kp:∀ k,k < w.heap.size->k≠pb->W.heap[k]?=w.heap[k]?:=by
   intro k hk hkp
   rw [mP k (by omega),ak _ _ (by simpa using hkp)]
   exact P3.out.block k hk
  refine eC.move HH.out st.tail.l st.tail.fl (fun k hk=>kp k (R6.out k hk) (fun e=>HH.out.sy (by rw [hk,e]))) (fun k hk=>kp k (XL.out k hk) (fun e=>HH.out.ny (by rw [hk,e]))) (fun k hk=>kp k (XM.out k hk) (fun e=>HH.out.oy (by rw [hk,e]))) ⟨T.aR,KX.out.2,KX.out.1,?_⟩
  rw [mP pb (by omega)]
  exact ay HYC.out 2 _
end Go.Proofs.YtpicaknklgccoabGreatDoor
