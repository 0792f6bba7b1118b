import Derived.Test.YtpicaknklgccoabGreatDoorS25
set_option maxHeartbeats 8000000
set_option maxRecDepth 100000
namespace Go.Proofs.YtpicaknklgccoabGreatDoor
theorem rr (f:Vl->bY->Vl × bY) (k:Nat) (v:Vl) (st:bY) (h:st.e≠0):(turns f k v st).2=st:=by
 cases k with
 | zero=>rfl
 | succ k=>simp only [turns];rw [if_pos h]
theorem fO (i:Int) (f:MM->MV × MM) (k:Nat) (v:MV) (m:MM) (h:m.fault≠0):(cD i f k v m).2=m:=by
 cases k with
 | zero=>rfl
 | succ k=>simp only [cD];rw [if_pos h]
theorem JX.name {st:bY} {m:MM} (h:JX st m) (i:Int) (v:MV):JX st (m.name i v):=⟨h.1,by rw [(gR m i v).1];exact h.2⟩
open Go.RowKit
theorem MU (m:MM) (v:MV) (h:m.fault≠0):(m.use v).2=m:=by
 unfold MM.use;split
 ·rfl
 ·simp only;split
  ·rfl
  ·exact tQ m 13 h
theorem ju:∀ (X:Vl) (v:MV) (m:MM),m.fault≠0->cT X v m=m
 | .n _,_,_,_=>rfl
 | .p a b,v,m,h=>by
  simp only [cT]
  rw [MU m v h,ju a _ m h,ju b _ m h]
theorem xq {cells:List MC}:∀ {X:Vl} {T:Ty},X.has T->X.size=T.size
 | .n _,.n,_=>rfl
 | .p a b,.p _ A B,h=>by
  simp only [Vl.has] at h
  simp only [Vl.size,Ty.size]
  rw [xq (cells:=cells) h.1,xq (cells:=cells) h.2]
 | .n _,.p _ _ _,h=>by simp [Vl.has] at h
 | .p _ _,.n,h=>by simp [Vl.has] at h
def qw (y:Vl × bY):Value:=if y.2.e≠0 then .agg #[.string ⟨#[]⟩,.int .i64 0,.int .i64 0,.int .i64 0,.int .i64 0] else .agg #[.string (bs y.1.txt),.int .i64 y.2.steps,.int .i64 y.2.cells,.int .i64 y.2.cells,.int .i64 y.2.cells]
theorem pH {w:World} {base:Nat} {e:TypeId} {size:Nat} {v:Value} {n:Nat} {xs:List Value} (h:w.ownsRow base e size v n xs) {b:Nat} {arr:Array Value} {t:TypeId} {fr:Nat × Nat} (hb:w.heap[b]?=some (.cells arr t fr)) (ht:t≠e):∀ k,v.ownBlock=some k->k≠b:=by
 intro k hk hkb
 rcases h.2 with ⟨h1,_⟩ | ⟨g,cap,cur,h1,_,hh,_⟩
 ·rw [h1] at hk;simp [Value.ownBlock] at hk
 ·rw [h1] at hk
  simp [Value.ownBlock] at hk
  rw [hk,hkb,hb] at hh
  simp only [Option.some.injEq,Obj.cells.injEq] at hh
  exact ht hh.2.1
theorem Bu (s:ByteArray) (w:World) (hs:s.size<=3000) (e:PT) (hp:PE false (tokens s.data.toList) e []):Calls Tryz.prog 30 #[.string s] w fun v w'=>∃ x1 n1 c1 x2 n2 c2 ns,v=.returned (.tuple #[aJ (.slice x1 n1 c1) (.slice x2 n2 c2),.int .i64 (cC e).1,.int .i64 (cC e).2])/\Below w.heap.size w w'/\bg w' (.slice x1 n1 c1) (.slice x2 n2 c2) ns (opn e 0)/\NA [] e 0 ns/\(jH false s.size (tokens s.data.toList)).nodes=ns:=by
 obtain ⟨ns,bt,A7⟩:=ot (len:=s.size) hp
 have jL:=jn hp
 have kN:=bt.len
 have vH:=fun w=>xu s w (by omega)
 have jj:=fun (w:World) (nv ov:Value) (h:bg w nv ov ns (opn e 0))=>n9 w nv ov ns (opn e 0) h (zZ bt) (by omega) (bt.small (fun _ h=>by simp at h) (by omega)) (fun j n hj=>by have:=bt.back j n hj;simpa using this)
 rw [wJ bt] at jj
 have L3:Hid _:=A7
 have Cf:Hid _:=jj
 have hnd:(jH false s.size (tokens s.data.toList)).nodes=ns:=by rw [A7]
 have yT:Hid _:=And.intro bt hnd
 clear hp bt A7 jj kN hnd
 generalize cC e=ans at *
 go_enter Tryz.func30,Tryz.ntmps30
 go_wp2_with fail
 refine (vH _).mono ?_
 rintro v w1 ⟨hb,hv⟩
 have hr:=qp hb
 have hlt:=af hr
 have HB:Hid _:=mh hb
 have HR:Hid _:=hr
 rcases hv with ⟨q',hq',_⟩ | ⟨_,nv,ov,rfl,hT⟩
 ·rw [L3.out] at hq';cases hq'
 ·rw [L3.out] at hT
  simp only at hT
  obtain ⟨x1,c1,e1⟩:=aF hT.nd
  obtain ⟨x2,c2,e2⟩:=aF hT.op
  have zm:Hid _:=pH hT.nd hr (by decide)
  have qQ:Hid _:=pH hT.op hr (by decide)
  have mr:=hT.below ((Below.refl _ w1).alloc (Nat.le_refl _) (.cells #[nv,ov] 62))
  have jj:=Cf.out (w1.alloc (.cells #[nv,ov] 62)) nv ov (hT.below ((Below.refl _ w1).alloc (Nat.le_refl _) _))
  subst e1
  subst e2
  unfold aJ at jj
  unfold aJ
  clear hT hb hr vH
  go_wp2_with fail
  refine jj.mono ?_
  rintro _ w2 ⟨rfl,hb2⟩
  have Ds:Hid _:=mr.below hb2
  have hk:=qp hb2
  have k0:w2.cell? ⟨w1.heap.size,0,none⟩=some (.slice x1 ns.length c1):=by rw [aa hk];rfl
  have k1:w2.cell? ⟨w1.heap.size,1,none⟩=some (.slice x2 (opn e 0).length c2):=by rw [aa hk];rfl
  have eH:w2.heap[w.heap.size]?=some (.cells #[.slice none 0 0,.slice none 0 0] 62 (0,0)):=by
   rw [hb2.block _ (by simp;omega)];exact aN _ HR.out
  have r0:w2.cell? ⟨w.heap.size,0,none⟩=some (.slice none 0 0):=by rw [aa eH];rfl
  have r1:w2.cell? ⟨w.heap.size,1,none⟩=some (.slice none 0 0):=by rw [aa eH];rfl
  have f0:=ag eH 0
  have f1:=ag eH 1
  have lE:Below w.heap.size w w2:=HB.out.trans ((mh hb2).mono HB.out.size)
  have dU:Hid _:=lE
  have hne:w.heap.size≠w1.heap.size:=by omega
  clear hk eH hb2 lE jj
  go_wp2
  refine bodyPost_ret (v:=.tuple #[.agg #[.slice x1 ns.length c1,.slice x2 (opn e 0).length c2],.int .i64 ans.1,.int .i64 ans.2]) (by simp [results,Tryz.results30,go_sem,r0,r1]) rfl ⟨x1,ns.length,c1,x2,(opn e 0).length,c2,ns,rfl,?_,⟨ax Ds.out.nd (fun k hk=>by rw [ak _ _ (by simpa using zm.out k hk),ak _ _ (by simpa using zm.out k hk)]),ax Ds.out.op (fun k hk=>by rw [ak _ _ (by simpa using qQ.out k hk),ak _ _ (by simpa using qQ.out k hk)])⟩,yT.out⟩
  exact (dU.out.setCell (p:=⟨w.heap.size,0,none⟩) (Nat.le_refl _) _).setCell (p:=⟨w.heap.size,1,none⟩) (Nat.le_refl _) _
def posOf (len:Nat):List Tk->Nat
 | []=>len
 | t::_=>t.at_
theorem dx (len:Nat) (t:Tk) (r:List Tk):posOf len (t::r)=t.at_:=rfl
theorem Ah (len:Nat):posOf len []=len:=rfl
def jM (len:Nat):List Tk->Prop
 | []=>True
 | t::r=>0 < t.s.length/\t.at_+t.s.length<=posOf len r/\jM len r
theorem xw (len:Nat):∀ (f p:Nat) (l:List UInt8),p+l.length=len->jM len (toks f p l)/\p<=posOf len (toks f p l)
 | 0,p,l,h=>by simp only [toks,jM,Ah,true_and];omega
 | f+1,p,[],h=>by simp only [toks,jM,Ah,true_and];simp at h;omega
 | f+1,p,c::r,h=>by
  simp only [List.length_cons] at h
  simp only [toks]
  split
  ·have:=xw len f (p+1) r (by omega)
   exact ⟨this.1,by omega⟩
  ·have hp:=lL (c::r)
   have hl:=qE (c::r) (by simp)
   simp only [List.length_cons] at hl
   have:=xw len f (p+(aK (c::r)).1) ((c::r).drop (aK (c::r)).1) (by simp only [List.length_drop,List.length_cons];omega)
   simp only [jM,dx,List.length_take,List.length_cons]
   exact ⟨⟨by omega,by omega,this.1⟩,Nat.le_refl _⟩
theorem xx (l:List UInt8):jM l.length (tokens l):=(xw l.length l.length 0 l (by omega)).1
mutual
def dr:PT->List NR->Nat->Nat->Prop
 | .num p _,ns,lo,hi=>∃ n,ns=[n]/\n.at_=p/\lo<=p/\p < n.aR/\n.aR<=hi
 | .name p _,ns,lo,hi=>∃ n,ns=[n]/\n.at_=p/\lo<=p/\p < n.aR/\n.aR<=hi
 | .node p _ _ _ kids,ns,lo,hi=>∃ ks n,ns=ks++[n]/\n.at_=p/\lo<=p/\bZ kids ks (p+1) n.aR/\p < n.aR/\n.aR<=hi
def bZ:List PT->List NR->Nat->Nat->Prop
 | [],ns,lo,hi=>ns=[]/\lo<=hi
 | t::r,ns,lo,hi=>∃ a c mid,ns=a++c/\dr t a lo mid/\bZ r c mid hi
end
theorem dr.lo {t:PT} {ns:List NR} {lo Yj hi:Nat} (h:dr t ns lo hi) (hl:Yj<=lo):dr t ns Yj hi:=by
 cases t with
 | num p s=>simp only [dr] at h ⊢;obtain ⟨n,h1,h2,h3,h4⟩:=h;exact ⟨n,h1,h2,by omega,h4⟩
 | name p s=>simp only [dr] at h ⊢;obtain ⟨n,h1,h2,h3,h4⟩:=h;exact ⟨n,h1,h2,by omega,h4⟩
 | node p k nm rg kids=>simp only [dr] at h ⊢;obtain ⟨ks,n,h1,h2,h3,h4⟩:=h;exact ⟨ks,n,h1,h2,by omega,h4⟩
theorem bZ.lo {ts:List PT} {ns:List NR} {lo Yj hi:Nat} (h:bZ ts ns lo hi) (hl:Yj<=lo):bZ ts ns Yj hi:=by
 cases ts with
 | nil=>simp only [bZ] at h ⊢;exact ⟨h.1,by omega⟩
 | cons t r=>simp only [bZ] at h ⊢;obtain ⟨a,c,mid,h1,h2,h3⟩:=h;exact ⟨a,c,mid,h1,h2.lo hl,h3⟩
theorem bZ.hi:∀ {ts:List PT} {ns:List NR} {lo hi hi':Nat},bZ ts ns lo hi->hi<=hi'->bZ ts ns lo hi'
 | [],_,_,_,_,h,hl=>by simp only [bZ] at h ⊢;exact ⟨h.1,by omega⟩
 | t::r,_,_,_,_,h,hl=>by simp only [bZ] at h ⊢;obtain ⟨a,c,mid,h1,h2,h3⟩:=h;exact ⟨a,c,mid,h1,h2,h3.hi hl⟩
theorem dr.lt {t:PT} {ns:List NR} {lo hi:Nat} (h:dr t ns lo hi):lo < hi:=by
 cases t with
 | num p s=>simp only [dr] at h;obtain ⟨n,h1,h2,h3,h4⟩:=h;omega
 | name p s=>simp only [dr] at h;obtain ⟨n,h1,h2,h3,h4⟩:=h;omega
 | node p k nm rg kids=>simp only [dr] at h;obtain ⟨ks,n,h1,h2,h3,h4⟩:=h;omega
theorem bZ.le:∀ {ts:List PT} {ns:List NR} {lo hi:Nat},bZ ts ns lo hi->lo<=hi
 | [],_,_,_,h=>by simp only [bZ] at h;exact h.2
 | t::r,_,_,_,h=>by simp only [bZ] at h;obtain ⟨a,c,mid,h1,h2,h3⟩:=h;have:=h2.lt;have:=h3.le;omega
def UR (ae:Bool) (len:Nat) (pE:PS->Int × PS) (m:Nat):Prop:=∀ (l:List Tk) (e:PT) (r:List Tk),PE ae l e r->l.length<=m->jM len l->∀ st:PS,st.l=l->st.fl=none ->
 ∃ ns,(pE st).2.nodes=st.nodes++ns/\dr e ns (posOf len l) (posOf len r)
theorem MW {ae:Bool} {len:Nat} {pE:PS->Int × PS} {m:Nat} (hY:UR ae len pE m) (w:List UInt8) (src:Int) {l:List Tk} {e:PT} {r:List Tk} (h:PE ae l e r) (hm:l.length<=m) (ht:jM len l) (st:PS) (hl:st.l=l) (hf:st.fl=none) :
  ∃ ns,(eZ pE w src st).2.nodes=st.nodes++ns/\dr e ns (posOf len l) (posOf len r):=hY l e r h hm ht { st with scope:=st.scope++[(w,src)] } hl hf
mutual
theorem PE.Bv {ae:Bool} {len:Nat}:∀ {l:List Tk} {e:PT} {r:List Tk},PE ae l e r->jM len l->jM len r/\posOf len l<=posOf len r
 | _,_,_,.num _,h=>by simp only [jM] at h;exact ⟨h.2.2,by simp only [dx];omega⟩
 | _,_,_,.name _,h=>by simp only [jM] at h;exact ⟨h.2.2,by simp only [dx];omega⟩
 | _,_,_,.node _ _ _ h4,h=>by
  simp only [jM] at h
  have:=PW.Bv h4 h.2.2.2.2
  have h1:=h.2.1
  simp only [dx] at h1 ⊢
  exact ⟨this.1,by omega⟩
theorem PW.Bv {ae:Bool} {len:Nat}:∀ {ws:List Wt} {l:List Tk} {nm rg:List UInt8} {kids:List PT} {r:List Tk},PW ae ws l nm rg kids r->jM len l->jM len r/\posOf len l<=posOf len r
 | _,_,_,_,_,_,.nil,h=>⟨h,Nat.le_refl _⟩
 | _,_,_,_,_,_,.close _ h1,h=>by simp only [jM] at h;have:=PW.Bv h1 h.2.2;simp only [dx];exact ⟨this.1,by omega⟩
 | _,_,_,_,_,_,.name _ h1,h=>by simp only [jM] at h;have:=PW.Bv h1 h.2.2;simp only [dx];exact ⟨this.1,by omega⟩
 | _,_,_,_,_,_,.region _ h1,h=>by simp only [jM] at h;have:=PW.Bv h1 h.2.2;simp only [dx];exact ⟨this.1,by omega⟩
 | _,_,_,_,_,_,.e h0 h1,h=>by have a:=PE.Bv h0 h;have b:=PW.Bv h1 a.1;exact ⟨b.1,by omega⟩
end
theorem QL {ae:Bool} (len:Nat) {pE:PS->Int × PS} {m:Nat} (hY:MX ae pE m) (hP:UR ae len pE m):∀ (is:List ru) (l:List Tk) (nm rg:List UInt8) (kids:List PT) (r:List Tk),PW ae (is.map ru.wt++[.close]) l nm rg kids r ->
  l.length<=m->jM len l->∀ (st:PS) (fs:FS),st.l=l->st.fl=none ->
  ∃ t ns,(gG len pE is fs st).2.l=t::r/\(gG len pE is fs st).2.nodes=st.nodes++ns/\bZ kids ns (posOf len l) t.at_/\0 < t.s.length/\t.at_+t.s.length<=posOf len r:=by
 intro is
 induction is with
 | nil =>
  intro l nm rg kids r h hm ht st fs hl hf
  simp only [List.map_nil,List.nil_append] at h
  cases h with
  | close hc h1 =>
   cases h1
   simp only [jM] at ht
   refine ⟨_,[],by simp only [gG];exact hl,by simp only [gG,List.append_nil],?_,ht.1,ht.2.1⟩
   simp only [bZ,dx,true_and];exact Nat.le_refl _
 | cons i is ih =>
  intro l nm rg kids r h hm ht st fs hl hf
  cases i with
  | name =>
   simp only [List.map_cons,ru.wt,List.cons_append] at h
   cases h with
   | name hc h1 =>
    rename_i t r1 Z6
    simp only [List.length_cons] at hm
    simp only [jM] at ht
    have hk:(eY len st.l).kind=4:=by rw [hl];exact (mA _).2 hc
    have hex:st.expect len 4={ st with l:=r1 }:=by
     unfold PS.expect;rw [if_neg (by simp [hk])];simp [PS.tail,hl]
    obtain ⟨t',ns,h2,h3,h4,h5⟩:=ih r1 Z6 rg kids r h1 (by omega) ht.2.2 { st with l:=r1 } { fs with word:=(eY len st.l).word } rfl hf
    refine ⟨t',ns,?_,?_,h4.lo (by simp only [dx];omega),h5⟩
    ·simp only [gG];rw [hex];exact h2
    ·simp only [gG];rw [hex];exact h3
  | region =>
   simp only [List.map_cons,ru.wt,List.cons_append] at h
   cases h with
   | region hc h1 =>
    rename_i t r1 rg1
    simp only [List.length_cons] at hm
    simp only [jM] at ht
    have hk:(eY len st.l).kind=6:=by rw [hl];exact (oR _).2 hc
    have hex:st.expect len 6={ st with l:=r1 }:=by
     unfold PS.expect;rw [if_neg (by simp [hk])];simp [PS.tail,hl]
    obtain ⟨t',ns,h2,h3,h4,h5⟩:=ih r1 nm rg1 kids r h1 (by omega) ht.2.2 { st with l:=r1 } { fs with region:=(eY len st.l).num } rfl hf
    refine ⟨t',ns,?_,?_,h4.lo (by simp only [dx];omega),h5⟩
    ·simp only [gG];rw [hex];exact h2
    ·simp only [gG];rw [hex];exact h3
  | e =>
   simp only [List.map_cons,ru.wt,List.cons_append] at h
   cases h with
   | e he h1 =>
    rename_i e r1 xy
    have hlt:=he.len
    have htk:=he.Bv ht
    obtain ⟨QM,eK,gI⟩:=hY l e r1 he hm st hl hf
    obtain ⟨Yk,hq0,hpos⟩:=hP l e r1 he hm ht st hl hf
    obtain ⟨t',ns,h2,h3,h4,h5⟩:=ih r1 nm rg xy r h1 (by omega) htk.1 (pE st).2 { fs with parts:=fs.parts++[(pE st).1] } (by rw [gI]) (by rw [gI];exact hf)
    refine ⟨t',Yk++ns,?_,?_,?_,h5⟩
    ·simp only [gG];exact h2
    ·simp only [gG];rw [h3,hq0,List.append_assoc]
    ·simp only [bZ];exact ⟨Yk,ns,_,rfl,hpos,h4⟩
  | body =>
   simp only [List.map_cons,ru.wt,List.cons_append] at h
   cases h with
   | e he h1 =>
    rename_i e r1 xy
    have hlt:=he.len
    have htk:=he.Bv ht
    obtain ⟨QM,eK,gI⟩:=xz hY fs.word (fs.parts.getLastD (-1)) he hm st hl hf
    obtain ⟨Yk,hq0,hpos⟩:=MW hP fs.word (fs.parts.getLastD (-1)) he hm ht st hl hf
    obtain ⟨t',ns,h2,h3,h4,h5⟩:=ih r1 nm rg xy r h1 (by omega) htk.1 (eZ pE fs.word (fs.parts.getLastD (-1)) st).2 { fs with parts:=fs.parts++[(eZ pE fs.word (fs.parts.getLastD (-1)) st).1] } (by rw [gI]) (by rw [gI];exact hf)
    refine ⟨t',Yk++ns,?_,?_,?_,h5⟩
    ·simp only [gG];exact h2
    ·simp only [gG];rw [h3,hq0,List.append_assoc]
    ·simp only [bZ];exact ⟨Yk,ns,_,rfl,hpos,h4⟩
theorem MY (ae:Bool) (len:Nat):∀ n:Nat,UR ae len (fe ae len n) n:=by
 intro n
 induction n with
 | zero =>
  intro l e r h hm
  obtain ⟨t,r',he,_⟩:=h.suffix
  rw [he] at hm;simp at hm
 | succ m ih =>
  intro l e r h hm ht st hl hf
  cases h with
  | num hc =>
   rename_i t
   simp only [jM] at ht
   obtain ⟨ns,hn,hp⟩:=(oI ae len (m+1)).1 _ _ _ (PE.num hc) hm st hl hf
   simp only [NA] at hn
   subst hn
   refine ⟨_,by rw [hp],⟨_,rfl,rfl,Nat.le_refl _,?_⟩⟩
   simp only;exact ⟨by omega,ht.2.1⟩
  | name hc =>
   rename_i t
   simp only [jM] at ht
   obtain ⟨ns,hn,hp⟩:=(oI ae len (m+1)).1 _ _ _ (PE.name hc) hm st hl hf
   simp only [NA] at hn
   subst hn
   refine ⟨_,by rw [hp],⟨_,rfl,rfl,Nat.le_refl _,?_⟩⟩
   simp only;exact ⟨by omega,ht.2.1⟩
  | node hc hk hw h4 =>
   rename_i t u k r0 nm rg kids
   have Fj:¬ (cP (bF u.c)=0\/(cP (bF u.c)=12/\ae=false)):=by
    rw [ng,hk];exact hw
   rw [ni k ae hw] at h4
   simp only [List.length_cons] at hm
   simp only [jM] at ht
   obtain ⟨c,ns,h1,h2,h3,h5,h6⟩:=QL len (oI ae len m).1 ih (rz k ae) r0 nm rg kids r h4 (by omega) ht.2.2.2.2 { st with opened:=st.opened++[-1],l:=r0 } ⟨[],[],0⟩ rfl hf
   obtain ⟨c',ns',h1',_,h3'⟩:=Hy len (oI ae len m).1 (rz k ae) r0 nm rg kids r h4 (Hz k ae) (by omega)
     { st with opened:=st.opened++[-1],l:=r0 } ⟨[],[],0⟩ nm rfl hf (fun e=>absurd e (Ai k ae)) (by
      split
      ·rfl
      ·rename_i hn
       have:Wt.name ∉ (rz k ae).map ru.wt++[.close]:=by
        intro hh
        rcases List.mem_append.1 hh with hh | hh
        ·obtain ⟨i,hi,e⟩:=List.mem_map.1 hh
         cases i with
         | name=>exact hn (by simpa using hi)
         | _=>cases e
        ·simp at hh
       exact (PW.xA h4 this).symm)
   have hcc:c=c':=by rw [h3'] at h1;simp only at h1;cases h1;rfl
   subst hcc
   have h21:=ht.2.1
   simp only [dx] at h21
   have h22:=ht.2.2.2.1
   refine ⟨ns++[{ NR.filled ⟨aY k,t.at_,t.at_+t.s.length,0,[],0,-1,-1,-1,-1⟩ (gG len (fe ae len m) (rz k ae) ⟨[],[],0⟩ { st with opened:=st.opened++[-1],l:=r0 }).1 with aR:=c.at_+c.s.length }],?_,⟨ns,_,rfl,rfl,Nat.le_refl _,?_,?_,h6⟩⟩
   ·show (iy (iw len (gF ae len (fe ae len m))) st).2.nodes=_
    unfold iy
    rw [xB len _ { st with opened:=st.opened++[-1] } hl hc]
    unfold gF
    have htk:eY len (u::r0)=gM u:=rfl
    simp only [htk]
    rw [if_neg (by simpa [gM] using Fj)]
    have hform:cP (gM u).kind=aY k:=by simp [gM,hk,aY]
    rw [hform,tR ae len _ k hw]
    simp only [PS.tail,List.tail_cons]
    have hkc:(eY len (c::r)).kind=3:=(tB _).2 h1'
    simp only [PS.expect,h1,hkc]
    rw [if_neg (by simp)]
    simp only [PS.tail,PS.add,h2,List.append_assoc]
    rfl
   ·exact (h3.lo (by omega)).hi (by show c.at_<=c.at_+c.s.length;omega)
   ·have hlo:posOf len r0<=c.at_:=h3.le
    show t.at_ < c.at_+c.s.length
    omega
theorem FO (a:Nat) (st:PS):(st.fail a).nodes=st.nodes:=by unfold PS.fail;split <;> rfl
theorem Bw (len k:Nat) (st:PS):(st.expect len k).nodes=st.nodes:=by
 unfold PS.expect
 split
 ·rw [FO];rfl
 ·rfl
theorem Dt {ae:Bool} {len:Nat} {l:List Tk} {e:PT} (h:PE ae l e []) (ht:jM len l):dr e (jH ae len l).nodes (posOf len l) len:=by
 obtain ⟨ns,h1,h2⟩:=MY ae len l.length l e [] h (Nat.le_refl _) ht (ps0 l) rfl rfl
 unfold jH
 rw [Bw,h1]
 exact h2
theorem Bx (w:World) (x1:Option Addr) (n1 c1:Nat) (x2:Option Addr) (n2 c2:Nat) (ns:List NR) (op:List Int) (hT:bg w (.slice x1 n1 c1) (.slice x2 n2 c2) ns op) (ho:wq ns op) (hl:ns.length<=9000) (tk:∀ n∈ns,n.small) (n0:NR) (h0:ns[ns.length - 1]?=some n0) (hB:n0.aR<=9000) (hat:∀ n∈ns,n.at_ < n0.aR) (hsz:jm [] (ns.map atR)) (E fs:List Nat) (hE:E=sj [] (List.range n0.aR) ns) (hfs:fs=bb E (bE ns op))
  (zt:List NR) (h2:∀ (k:Nat) n r,ns[k]?=some n->(dX E fs ns)[k]?=some r->zt.drop k=fL n r::zt.drop (k+1)/\(n.form=4->0<=r)) (Wc:zt.length=ns.length) (FP:jm [] zt) :
  Calls Tryz.prog 31 #[aJ (.slice x1 n1 c1) (.slice x2 n2 c2)] w fun e w'=>∃ y1 m1 d1 y2 m2 d2,e=.returned (.agg #[.slice y1 m1 d1,.slice y2 m2 d2])/\wP w' ⟨.slice y1 m1 d1,.slice y2 m2 d2,dX E fs ns,gT (bC [] zt) ns n0 fs.length⟩/\Below w.heap.size w w':=by
 have hrl:(dX E fs ns).length=ns.length:=by unfold dX;rw [List.length_map]
 have kN:(gT (bC [] zt) ns n0 fs.length).length=fs.length:=by unfold gT;rw [List.length_map,List.length_range]
 have hfl:fs.length<=9000:=by have:=oh E (bE ns op);rw [kP,ho.1] at this;rw [hfs];omega
 have R9:=fun (W:World) (hb:Below w.heap.size w W)=>zq W x1 n1 c1 x2 n2 c2 ns op (hT.below hb) ho hl tk n0 h0 hB hat hsz E fs hE hfs
 have hne:=fun (W:World) (hb:Below w.heap.size w W) (rv:Value) (CZ:W.ownsRow 0 3 1 rv (dX E fs ns).length (gr (dX E fs ns)))=>CY W x1 n1 c1 x2 n2 c2 ns op (hT.below hb) hl tk n0 h0 rv (dX E fs ns) CZ hrl fs.length hfl zt h2 Wc FP
 unfold aJ at R9 hne
 unfold aJ
 have P5:Hid _:=R9
 have K1:Hid _:=hne
 have Lx:Hid _:=hrl
 have HNL:Hid _:=kN
 generalize gT (bC [] zt) ns n0 fs.length=news at *
 generalize dX E fs ns=regs at *
 generalize fs.length=cn at *
 generalize ns.length=m at *
 clear R9 hne hrl kN hT ho tk h0 hat hsz hE hfs h2 Wc FP
 obtain ⟨WB,qL⟩:∃ WB,WB=(w.alloc (.cells #[.slice x1 n1 c1,.slice x2 n2 c2] 62)).alloc (.cells #[.slice none 0 0,.slice none 0 0] 73):=⟨_,rfl⟩
 have hBX:Below w.heap.size w WB:=by rw [qL];exact cB (cB (Below.refl _ _) _) _
 have pX:WB.heap[w.heap.size]?=some (.cells #[.slice x1 n1 c1,.slice x2 n2 c2] 62 (0,0)):=by
  have h2:=cB (Below.refl (w.alloc (.cells #[.slice x1 n1 c1,.slice x2 n2 c2] 62)).heap.size (w.alloc (.cells #[.slice x1 n1 c1,.slice x2 n2 c2] 62))) (.cells #[.slice none 0 0,.slice none 0 0] 73)
  rw [qL,h2.block _ (by simp)];exact aj _ _
 have hk1:WB.heap[w.heap.size+1]?=some (.cells #[.slice none 0 0,.slice none 0 0] 73 (0,0)):=by
  have:=aj (w.alloc (.cells #[.slice x1 n1 c1,.slice x2 n2 c2] 62)) (.cells #[.slice none 0 0,.slice none 0 0] 73 (0,0))
  rw [qL];simpa using this
 have dP:Hid _:=hBX
 have Lu:Hid _:=pX
 have E7:Hid _:=hk1
 have O8:Hid _:=qL
 have lH:w.heap.size+1 < WB.heap.size:=af hk1
 clear hBX pX hk1 qL
 go_enter Tryz.func31,Tryz.ntmps31
 go_wp2_with fail
 rw [<- O8.out]
 refine Calls.mono (P5.out WB dP.out) ?_
 rintro _ w1 ⟨rv,rfl,hr1,hb1⟩
 have hk:=(hb1.block _ (af Lu.out)).trans Lu.out
 have a0:w1.cell? ⟨w.heap.size,0,none⟩=some (.slice x1 n1 c1):=by rw [aa hk];rfl
 have a1:w1.cell? ⟨w.heap.size,1,none⟩=some (.slice x2 n2 c2):=by rw [aa hk];rfl
 have al:=af hk
 have MZ:w1.ownsRow 0 3 1 rv regs.length (gr regs):=by rw [Lx.out];exact dn hr1 (fun _ _=>Nat.zero_le _)
 have hnc:=K1.out w1 (dP.out.trans (hb1.mono dP.out.size)) rv MZ
 obtain ⟨y1,d1,CZ⟩:=aF hr1
 subst CZ
 have Ha:Hid _:=hr1
 have aaJ:Hid _:=MZ
 have dG:Hid _:=hb1
 clear hk MZ hr1 hb1 P5 K1
 go_wp2_with fail
 refine Calls.mono hnc ?_
 rintro _ w2 ⟨av,rfl,eH,hb2⟩
 have Jw:Hid _:=aB aaJ.out hb2
 have lE:=dG.out.trans (hb2.mono dG.out.size)
 have hk2:=(lE.block _ (af E7.out)).trans E7.out
 have r0:w2.cell? ⟨w.heap.size+1,0,none⟩=some (.slice none 0 0):=by rw [aa hk2];rfl
 have r1:w2.cell? ⟨w.heap.size+1,1,none⟩=some (.slice none 0 0):=by rw [aa hk2];rfl
 have f0:=ag hk2 0
 have f1:=ag hk2 1
 have rl:=af hk2
 obtain ⟨y2,d2,XZ⟩:=aF eH
 subst XZ
 have HN2:Hid _:=eH
 have dU:Hid _:=dP.out.trans (lE.mono dP.out.size)
 have nQ:Hid _:=hk2
 have TG:=hb2.size
 have hW1:=dG.out.size
 clear hb2 eH lE hk2 hnc a0 a1 al
 go_wp2
 obtain ⟨WF,Pc⟩:∃ WF,WF=(w2.setCell ⟨w.heap.size+1,0,none⟩ (.slice y1 m d1)).setCell ⟨w.heap.size+1,1,none⟩ (.slice y2 cn d2):=⟨_,rfl⟩
 have hF:WF.heap[w.heap.size+1]?=some (.cells #[.slice y1 m d1,.slice y2 cn d2] 73 (0,0)):=by rw [Pc];exact ay (ay nQ.out 0 _) 1 _
 have u0:WF.cell? ⟨w.heap.size+1,0,none⟩=some (.slice y1 m d1):=by rw [aa hF];rfl
 have u1:WF.cell? ⟨w.heap.size+1,1,none⟩=some (.slice y2 cn d2):=by rw [aa hF];rfl
 rw [<- Pc]
 refine bodyPost_ret (v:=.agg #[.slice y1 m d1,.slice y2 cn d2]) (by simp [results,Tryz.results31,go_sem,u0,u1]) rfl ⟨_,_,_,_,_,_,rfl,⟨?_,?_⟩,?_⟩
 ·rw [Pc]
  refine ax Jw.out (fun k hk=>?_)
  have h1:=(World.ownsRow.lt Ha.out k hk).1
  rw [ak _ _ (by simp only;omega),ak _ _ (by simp only;omega)]
 ·rw [Pc]
  have hn:=dn HN2.out (base':=0) (fun _ _=>Nat.zero_le _)
  simp only
  rw [HNL.out]
  refine ax hn (fun k hk=>?_)
  have h1:=(World.ownsRow.lt HN2.out k hk).1
  rw [ak _ _ (by simp only;omega),ak _ _ (by simp only;omega)]
 ·rw [Pc]
  exact dU.out.trans (eO (eO (Below.refl _ _) (by omega)) (by omega))
open Go.Lib (decDigits)
def tS (t:Tk):Prop:=t.c=.GS->0<=aq t.s/\aq t.s<=999
theorem UT (l:List UInt8):(aK l).2=.GS->0<=aq (l.take (aK l).1)/\aq (l.take (aK l).1)<=999:=by
 unfold aK
 split
 ·intro h
  simp only [ep] at h
  split at h
  ·simp at h
  ·split at h <;> simp at h
 ·split
  ·intro h
   simp only at h
   split at h <;> simp at h
  ·split
   ·simp
   ·rename_i c r _ _
    split
    ·rename_i hc
     intro h
     simp only at h
     split at h
     ·rename_i hn
      simp only [cj,Bool.and_eq_true,decide_eq_true_eq] at hn
      have hf:=wG (r.take (run 48 57 r)) 0 (fun c hc=>wF 48 57 r c hc) (by omega)
      have hp:10 ^ (r.take (run 48 57 r)).length<=10 ^ 3:=Nat.pow_le_pow_right (by omega) hn.1.2
      simp only [List.take_succ_cons]
      unfold aq
      rw [List.foldl_cons,if_pos hc]
      omega
     ·simp at h
    ·intro h
     simp only at h
     split at h
     ·simp at h
     ·split at h <;> simp at h
theorem pI (l:List UInt8):∀ t∈tokens l,tS t:=by
 intro t ht
 obtain ⟨l',_,hs,hc⟩:=si _ _ _ t ht
 unfold tS
 rw [hs,hc]
 exact UT l'
mutual
def PT.vg:PT->Prop
 | .num _ _=>True
 | .name _ _=>True
 | .node _ _ _ rg kids=>(0<=aq rg/\aq rg<=999)/\xC kids
def xC:List PT->Prop
 | []=>True
 | t::r=>t.vg/\xC r
end
mutual
theorem PE.vg {ae:Bool}:∀ {l:List Tk} {e:PT} {r:List Tk},PE ae l e r->(∀ t∈l,tS t)->e.vg/\∀ t∈r,tS t
 | _,_,_,.num _,ha=>⟨by simp [PT.vg],fun x hx=>ha x (by simp [hx])⟩
 | _,_,_,.name _,ha=>⟨by simp [PT.vg],fun x hx=>ha x (by simp [hx])⟩
 | _,_,_,.node _ _ _ h4,ha=>by
  have h:=PW.vg h4 (fun x hx=>ha x (by simp [hx]))
  exact ⟨by simp only [PT.vg];exact ⟨h.1,h.2.1⟩,h.2.2⟩
theorem PW.vg {ae:Bool}:∀ {ws:List Wt} {l:List Tk} {nm rg:List UInt8} {kids:List PT} {r:List Tk},PW ae ws l nm rg kids r->(∀ t∈l,tS t)->(0<=aq rg/\aq rg<=999)/\xC kids/\∀ t∈r,tS t
 | _,_,_,_,_,_,.nil,ha=>⟨by decide,by simp [xC],ha⟩
 | _,_,_,_,_,_,.close _ h1,ha=>PW.vg h1 (fun x hx=>ha x (by simp [hx]))
 | _,_,_,_,_,_,.name _ h1,ha=>PW.vg h1 (fun x hx=>ha x (by simp [hx]))
 | _,_,_,_,_,_,.region (t:=t) h h1,ha=>by
  have h':=PW.vg h1 (fun x hx=>ha x (by simp [hx]))
  exact ⟨ha t (by simp) h,h'.2⟩
 | _,_,_,_,_,_,.e h0 h1,ha=>by
  have a:=PE.vg h0 ha
  have b:=PW.vg h1 a.2
  exact ⟨b.1,by simp only [xC];exact ⟨a.1,b.2.1⟩,b.2.2⟩
end
mutual
theorem H0:∀ t:PT,t.vg->∀ x∈t.EW,0<=aq x.2/\aq x.2<=999
 | .num _ _,_,x,hx=>by simp [PT.EW] at hx
 | .name _ _,_,x,hx=>by simp [PT.EW] at hx
 | .node p k _ rg kids,h,x,hx=>by
  simp only [PT.vg] at h
  simp only [PT.EW,List.mem_append] at hx
  rcases hx with hx | hx
  ·split at hx
   ·rw [List.mem_singleton] at hx;subst hx;exact h.1
   ·simp at hx
  ·exact Du kids h.2 x hx
theorem Du:∀ ts:List PT,xC ts->∀ x∈tT ts,0<=aq x.2/\aq x.2<=999
 | [],_,x,hx=>by simp [tT] at hx
 | t::r,h,x,hx=>by
  simp only [xC] at h
  simp only [tT,List.mem_append] at hx
  rcases hx with hx | hx
  ·exact H0 t h.1 x hx
  ·exact Du r h.2 x hx
end
def oJ (e:PT):List Nat:=e.EW.map (fun x=>(aq x.2).toNat)
theorem M0 {e:PT} (h:e.vg):∀ x∈oJ e,x < 1000:=by
 intro x hx
 unfold oJ at hx
 rw [List.mem_map] at hx
 obtain ⟨y,hy,rfl⟩:=hx
 have:=H0 e h y hy
 omega
def rA (a b:dM):Prop:=a.e=b.e/\a.at_=b.at_
def QN (x y:Ty × dM):Prop:=x.1.bare=y.1.bare/\rA x.2 y.2
theorem Bz {a b:dM} (h:rA a b) (e p:Nat):rA (cZ a e p) (cZ b e p):=by
 unfold cZ
 rw [h.1]
 split
 ·exact ⟨rfl,rfl⟩
 ·exact h
theorem M3 {a b:Ty} (h:a.bare=b.bare):a.size=b.size:=by rw [<- eM a,h,eM]
theorem pJ {a b:Ty} (h:a.bare=b.bare):a=.n↔b=.n:=by cases a <;> cases b <;> simp [Ty.bare] at h ⊢
theorem FQ {x y:Ty × dM} (h:QN x y) (id id' p:Nat):QN (fin id p x) (fin id' p y):=by
 have hs:=M3 h.1
 unfold fin
 refine ⟨h.1,?_⟩
 simp only [rA]
 rw [h.2.1,hs]
 split
 ·exact Bz h.2 6 p
 ·exact h.2
theorem oK {st st':dM} (hs:rA st st') (p:Nat):QN (.n,cZ st 5 p) (.n,cZ st' 5 p):=⟨rfl,Bz hs 5 p⟩
theorem QO {a b c a' b' c':Ty} {st st':dM} {p:Nat} (hs:rA st st') (h1:a.bare=a'.bare) (h2:b.bare=b'.bare) (h3:c.bare=c'.bare):QN (if a=.n/\b.bare=c.bare then (b,st) else (.n,cZ st 5 p)) (if a'=.n/\b'.bare=c'.bare then (b',st') else (.n,cZ st' 5 p)):=by
 by_cases hc:a=.n/\b.bare=c.bare
 ·rw [if_pos hc,if_pos ⟨(pJ h1).1 hc.1,by rw [<- h2,<- h3];exact hc.2⟩];exact ⟨h2,hs⟩
 ·rw [if_neg hc,if_neg (fun h=>hc ⟨(pJ h1).2 h.1,by rw [h2,h3];exact h.2⟩)];exact oK hs p
theorem QP {a b a' b':Ty} {st st':dM} {p:Nat} (hs:rA st st') (h1:a.bare=a'.bare) (h2:b.bare=b'.bare):QN (if a=.n/\b=.n then (.n,st) else (.n,cZ st 5 p)) (if a'=.n/\b'=.n then (.n,st') else (.n,cZ st' 5 p)):=by
 by_cases hc:a=.n/\b=.n
 ·rw [if_pos hc,if_pos ⟨(pJ h1).1 hc.1,(pJ h2).1 hc.2⟩];exact ⟨rfl,hs⟩
 ·rw [if_neg hc,if_neg (fun h=>hc ⟨(pJ h1).2 h.1,(pJ h2).2 h.2⟩)];exact oK hs p
theorem M4 (cls iL:List Nat) (k:Kw) (p site dz:Nat) (ks ks':List Ty) (st st':dM) (h:ks.map Ty.bare=ks'.map Ty.bare) (hs:rA st st'):QN (bD cls k p site ks st) (bD iL k p dz ks' st'):=by
 have hl:ks.length=ks'.length:=by have:=congrArg List.length h;simpa using this
 cases ks with
 | nil =>
  cases ks' with
  | nil=>cases k <;> exact oK hs p
  | cons a' r'=>simp at hl
 | cons a r =>
  cases ks' with
  | nil=>simp at hl
  | cons a' r' =>
   simp only [List.map_cons,List.cons.injEq] at h
   have ha:=h.1
   have hfs:∀ k,k=.fst\/k=.snd->QN (bD cls k p site (a::r) st) (bD iL k p dz (a'::r') st'):=by
    intro k hk
    cases a with
    | n =>
     cases a' with
     | n=>rcases hk with rfl | rfl <;> exact oK hs p
     | p _ _ _=>simp [Ty.bare] at ha
    | p r1 u v =>
     cases a' with
     | n=>simp [Ty.bare] at ha
     | p r2 u' v' =>
      simp only [Ty.bare,Ty.p.injEq,true_and] at ha
      rcases hk with rfl | rfl
      ·exact ⟨ha.1,hs⟩
      ·exact ⟨ha.2,hs⟩
   cases r with
   | nil =>
    cases r' with
    | cons b' r'=>simp at hl
    | nil =>
     cases k <;> first | exact hfs _ (Or.inl rfl) | exact hfs _ (Or.inr rfl) | exact oK hs p | exact ⟨ha,hs⟩
   | cons b r =>
    cases r' with
    | nil=>simp at hl
    | cons b' r' =>
     simp only [List.map_cons,List.cons.injEq] at h
     have hb:=h.2.1
     cases r with
     | nil =>
      cases r' with
      | cons c' r'=>simp at hl
      | nil =>
       cases k <;> first | exact hfs _ (Or.inl rfl) | exact hfs _ (Or.inr rfl) | exact oK hs p | exact QP hs ha hb | exact ⟨ha,hs⟩ | exact ⟨by simp only [bD,Ty.bare,ha,hb],hs⟩
     | cons c r =>
      cases r' with
      | nil=>simp at hl
      | cons c' r' =>
       simp only [List.map_cons,List.cons.injEq] at h
       have hc:=h.2.2.1
       cases r with
       | nil =>
        cases r' with
        | cons d' r'=>simp at hl
        | nil =>
         cases k <;> first | exact hfs _ (Or.inl rfl) | exact hfs _ (Or.inr rfl) | exact oK hs p | exact QO hs ha hb hc | exact ⟨ha,hs⟩
       | cons d r =>
        cases r' with
        | nil=>simp at hl
        | cons d' r'=>cases k <;> first | exact hfs _ (Or.inl rfl) | exact hfs _ (Or.inr rfl) | exact oK hs p | exact ⟨ha,hs⟩
theorem uM {env env':aQ} {nm:List UInt8} {T T':Ty} (h:gq env=gq env') (hT:T.bare=T'.bare):gq (env++[(nm,T)])=gq (env'++[(nm,T')]):=by rw [jk,jk,h,hT]
mutual
theorem gS (cls iL:List Nat):∀ (t:PT) (id id' site dz:Nat) (env env':aQ) (st st':dM),gq env=gq env'->rA st st'->QN (aD cls t id site env st) (aD iL t id' dz env' st')
 | .num p s,id,id',site,dz,env,env',st,st',he,hs=>by simp only [aD];exact FQ (x:=(.n,st)) (y:=(.n,st')) ⟨rfl,hs⟩ _ _ _
 | .name p s,id,id',site,dz,env,env',st,st',he,hs=>by
  simp only [aD]
  refine FQ ?_ _ _ _
  have h1:=o4 env s
  have h2:=o4 env' s
  rw [he,h2] at h1
  cases hl:look env s with
  | none =>
   cases hl':look env' s with
   | none=>exact ⟨rfl,Bz hs 4 p⟩
   | some T'=>rw [hl,hl'] at h1;simp at h1
  | some T =>
   cases hl':look env' s with
   | none=>rw [hl,hl'] at h1;simp at h1
   | some T' =>
    rw [hl,hl'] at h1
    simp only [Option.map_some,Option.some.injEq] at h1
    exact ⟨h1.symm,hs⟩
 | .node p k nm rg kids,id,id',site,dz,env,env',st,st',he,hs=>by
  simp only [aD]
  refine FQ ?_ _ _ _
  by_cases hk:k=.aT
  ·rw [if_pos hk,if_pos hk]
   exact J1 cls iL nm kids _ _ _ _ env env' st st' he hs
  ·rw [if_neg hk,if_neg hk]
   have hx:(if k=.loop then aW cls nm kids (id+1) site env st else bh cls kids (id+1) (site+if k=.pair then 1 else 0) env st).1.map Ty.bare=(if k=.loop then aW iL nm kids (id'+1) dz env' st' else bh iL kids (id'+1) (dz+if k=.pair then 1 else 0) env' st').1.map Ty.bare/\rA (if k=.loop then aW cls nm kids (id+1) site env st else bh cls kids (id+1) (site+if k=.pair then 1 else 0) env st).2 (if k=.loop then aW iL nm kids (id'+1) dz env' st' else bh iL kids (id'+1) (dz+if k=.pair then 1 else 0) env' st').2:=by
    by_cases hl:k=.loop
    ·rw [if_pos hl,if_pos hl];exact FR cls iL nm kids _ _ _ _ env env' st st' he hs
    ·rw [if_neg hl,if_neg hl];exact xD cls iL kids _ _ _ _ env env' st st' he hs
   generalize (if k=.loop then aW cls nm kids (id+1) site env st else bh cls kids (id+1) (site+if k=.pair then 1 else 0) env st)=x at hx ⊢
   generalize (if k=.loop then aW iL nm kids (id'+1) dz env' st' else bh iL kids (id'+1) (dz+if k=.pair then 1 else 0) env' st')=x' at hx ⊢
   by_cases h0:x.2.e=0
   ·rw [if_neg (by simpa using h0),if_neg (by rw [<- hx.2.1];simpa using h0)]
    exact M4 cls iL k p site dz x.1 x'.1 x.2 x'.2 hx.1 hx.2
   ·rw [if_pos h0,if_pos (by rw [<- hx.2.1];exact h0)]
    exact ⟨rfl,hx.2⟩
theorem xD (cls iL:List Nat):∀ (ts:List PT) (id id' site dz:Nat) (env env':aQ) (st st':dM),gq env=gq env'->rA st st'->(bh cls ts id site env st).1.map Ty.bare=(bh iL ts id' dz env' st').1.map Ty.bare/\rA (bh cls ts id site env st).2 (bh iL ts id' dz env' st').2
 | [],_,_,_,_,_,_,st,st',_,hs=>by simp only [bh];exact ⟨trivial,hs⟩
 | a::r,id,id',site,dz,env,env',st,st',he,hs=>by
  simp only [bh]
  have h1:=gS cls iL a id id' site dz env env' st st' he hs
  have h2:=xD cls iL r (id+a.cnt) (id'+a.cnt) (site+a.bK) (dz+a.bK) env env' _ _ he h1.2
  exact ⟨by rw [List.map_cons,List.map_cons,h1.1,h2.1],h2.2⟩
theorem J1 (cls iL:List Nat) (nm:List UInt8):∀ (ts:List PT) (id id' site dz:Nat) (env env':aQ) (st st':dM),gq env=gq env'->rA st st'->QN (dH cls nm ts id site env st) (dH iL nm ts id' dz env' st')
 | [a,b],id,id',site,dz,env,env',st,st',he,hs=>by
  simp only [dH]
  have h1:=gS cls iL a id id' site dz env env' st st' he hs
  exact gS cls iL b _ _ _ _ _ _ _ _ (uM he h1.1) h1.2
 | [],_,_,_,_,_,_,st,st',_,hs=>by simp only [dH];exact ⟨rfl,hs⟩
 | [_],_,_,_,_,_,_,st,st',_,hs=>by simp only [dH];exact ⟨rfl,hs⟩
 | _::_::_::_,_,_,_,_,_,_,st,st',_,hs=>by simp only [dH];exact ⟨rfl,hs⟩
theorem FR (cls iL:List Nat) (nm:List UInt8):∀ (ts:List PT) (id id' site dz:Nat) (env env':aQ) (st st':dM),gq env=gq env'->rA st st'->(aW cls nm ts id site env st).1.map Ty.bare=(aW iL nm ts id' dz env' st').1.map Ty.bare/\rA (aW cls nm ts id site env st).2 (aW iL nm ts id' dz env' st').2
 | [a,b,c],id,id',site,dz,env,env',st,st',he,hs=>by
  simp only [aW]
  have h1:=gS cls iL a id id' site dz env env' st st' he hs
  have h2:=gS cls iL b (id+a.cnt) (id'+a.cnt) (site+a.bK) (dz+a.bK) env env' _ _ he h1.2
  have h3:=gS cls iL c (id+a.cnt+b.cnt) (id'+a.cnt+b.cnt) (site+a.bK+b.bK) (dz+a.bK+b.bK) _ _ _ _ (uM (nm:=nm) he h2.1) h2.2
  exact ⟨by simp only [List.map_cons,List.map_nil];rw [h1.1,h2.1,h3.1],h3.2⟩
 | [],_,_,_,_,_,_,st,st',_,hs=>by simp only [aW];exact ⟨trivial,hs⟩
 | [_],_,_,_,_,_,_,st,st',_,hs=>by simp only [aW];exact ⟨trivial,hs⟩
 | [_,_],_,_,_,_,_,_,st,st',_,hs=>by simp only [aW];exact ⟨trivial,hs⟩
 | _::_::_::_::_,_,_,_,_,_,_,st,st',_,hs=>by simp only [aW];exact ⟨trivial,hs⟩
end
mutual
def PT.subs:PT->Nat->Nat->List (PT × Nat × Nat)
 | .num p s,id,site=>[(.num p s,id,site)]
 | .name p s,id,site=>[(.name p s,id,site)]
 | .node p k nm rg kids,id,site=>Dv kids (id+1) (site+if k=.pair then 1 else 0)++[(.node p k nm rg kids,id,site)]
def Dv:List PT->Nat->Nat->List (PT × Nat × Nat)
 | [],_,_=>[]
 | t::r,id,site=>t.subs id site++Dv r (id+t.cnt) (site+t.bK)
end
theorem BA:∀ (T U:Ty) (x y:List UInt8),T.txt++x=U.txt++y->T=U/\x=y
 | .n,.n,x,y,h=>by simp [Ty.txt] at h;exact ⟨rfl,h⟩
 | .n,.p _ _ _,x,y,h=>by simp [Ty.txt] at h
 | .p _ _ _,.n,x,y,h=>by simp [Ty.txt] at h
 | .p r a b,.p r' a' b',x,y,h=>by
  simp only [Ty.txt,List.cons_append,List.append_assoc,List.cons.injEq,true_and] at h
  have h1:=congrArg (fun l=>l.takeWhile (fun c=>c != 58)) h
  simp only [LD] at h1
  have hr:r=r':=by
   have:=congrArg LB h1
   rw [CB,CB] at this
   omega
  subst hr
  have h2:=List.append_cancel_left h
  simp only [List.cons.injEq,true_and] at h2
  obtain ⟨e1,h3⟩:=BA a a' _ _ h2
  obtain ⟨e2,h4⟩:=BA b b' _ _ h3
  simp only [List.nil_append,List.cons.injEq,true_and] at h4
  exact ⟨by rw [e1,e2],h4⟩
theorem QQ {T U:Ty} (h:T.txt=U.txt):T=U:=(BA T U [] [] (by rw [h])).1
def BB (TY:List Ty) (k:Nat):Ty:=(TY[k]?).getD .n
def iM (TY:List Ty):PT × Nat × Nat->Nat
 | (.node _ k _ _ [a,b,_],id,_)=>if (k=.dQ\/k=.loop)/\BB TY (id+1+a.cnt)≠BB TY (id+1+a.cnt+b.cnt) then 9 else 0
 | (.node _ k _ rg [_],id,_)=>if k=.new/\(BB TY (id+1)).has (aq rg)=true then 10 else 0
 | _=>0
def PT.Z7:PT->Nat
 | .num p _=>p
 | .name p _=>p
 | .node p _ _ _ _=>p
def tU (TY:List Ty):List (PT × Nat × Nat)->Nat × Nat
 | []=>(0,0)
 | x::r=>if iM TY x≠0 then (iM TY x,x.1.Z7) else tU TY r
theorem xE {w:World} {base:Nat} {e:TypeId} {size:Nat} {v:Value} {n:Nat} {xs:List Value} (h:w.ownsRow base e size v n xs):∃ a c,v=.slice a n c:=by
 rcases h.2 with ⟨h1,h2⟩ | ⟨g,cap,cur,h1,_⟩
 ·exact ⟨none,0,by rw [h1,h2]⟩
 ·exact ⟨_,_,h1⟩
theorem vO {w:World} {base:Nat} {e:TypeId} {size:Nat} {v:Value} {n:Nat} {xs:List Value} (h:w.ownsRow base e size v n xs) {b:Nat} {arr:Array Value} {t:TypeId} {fr:Nat × Nat} (hb:w.heap[b]?=some (.cells arr t fr)) (ht:t≠e):∀ k,v.ownBlock=some k->k≠b:=by
 intro k hk hkb
 rcases h.2 with ⟨h1,_⟩ | ⟨g,cap,cur,h1,_,hh,_⟩
 ·rw [h1] at hk;simp [Value.ownBlock] at hk
 ·rw [h1] at hk
  simp [Value.ownBlock] at hk
  rw [hk,hkb,hb] at hh
  simp only [Option.some.injEq,Obj.cells.injEq] at hh
  exact ht hh.2.1
theorem vh (s:ByteArray) (w:World) (hs:s.size<=9000) (e:PT) (hp:PE true (tokens s.data.toList) e []):Calls Tryz.prog 36 #[.string s] w fun v w'=>∃ x1 n1 c1 x2 n2 c2 ns,v=.returned (.tuple #[aJ (.slice x1 n1 c1) (.slice x2 n2 c2),.int .i64 0,.int .i64 0])/\Below w.heap.size w w'/\bg w' (.slice x1 n1 c1) (.slice x2 n2 c2) ns (opn e 0)/\NA [] e 0 ns/\dr e ns (posOf s.size (tokens s.data.toList)) s.size:=by
 obtain ⟨ns,bt,A7⟩:=ot (len:=s.size) hp
 have hps:=Dt (ae:=true) (len:=s.size) hp (xx s.data.toList)
 rw [A7] at hps
 have vH:=fun w=>jT s w (by omega)
 have L3:Hid _:=A7
 have yT:Hid _:=And.intro bt hps
 clear hp bt A7 hps
 go_enter Tryz.func36,Tryz.ntmps36
 go_wp2_with fail
 refine (vH _).mono ?_
 rintro v w1 ⟨hb,hv⟩
 have hr:=qp hb
 have hlt:=af hr
 have HB:Hid _:=mh hb
 rcases hv with ⟨q',hq',_⟩ | ⟨_,nv,ov,rfl,hT⟩
 ·rw [L3.out] at hq';cases hq'
 ·rw [L3.out] at hT
  simp only at hT
  obtain ⟨x1,c1,e1⟩:=xE hT.nd
  obtain ⟨x2,c2,e2⟩:=xE hT.op
  have zm:Hid _:=vO hT.nd hr (by decide)
  have qQ:Hid _:=vO hT.op hr (by decide)
  subst e1
  subst e2
  have r0:w1.cell? ⟨w.heap.size,0,none⟩=some (.slice none 0 0):=by rw [aa hr];rfl
  have r1:w1.cell? ⟨w.heap.size,1,none⟩=some (.slice none 0 0):=by rw [aa hr];rfl
  have f0:=ag hr 0
  have f1:=ag hr 1
  have hW:=aN (.cells #[.slice x1 ns.length c1,.slice x2 (opn e 0).length c2] 62) (ay (ay hr 0 (.slice x1 ns.length c1)) 1 (.slice x2 (opn e 0).length c2))
  have S0:Hid ((((w1.setCell ⟨w.heap.size,0,none⟩ (.slice x1 ns.length c1)).setCell ⟨w.heap.size,1,none⟩ (.slice x2 (opn e 0).length c2)).alloc (.cells #[.slice x1 ns.length c1,.slice x2 (opn e 0).length c2] 62)).cell? ⟨w.heap.size,0,none⟩=some (.slice x1 ns.length c1)):=(aa hW 0).trans rfl
  have S1:Hid ((((w1.setCell ⟨w.heap.size,0,none⟩ (.slice x1 ns.length c1)).setCell ⟨w.heap.size,1,none⟩ (.slice x2 (opn e 0).length c2)).alloc (.cells #[.slice x1 ns.length c1,.slice x2 (opn e 0).length c2] 62)).cell? ⟨w.heap.size,1,none⟩=some (.slice x2 (opn e 0).length c2)):=(aa hW 1).trans rfl
  have Yl:bg ((w1.setCell ⟨w.heap.size,0,none⟩ (.slice x1 ns.length c1)).setCell ⟨w.heap.size,1,none⟩ (.slice x2 (opn e 0).length c2)) (.slice x1 ns.length c1) (.slice x2 (opn e 0).length c2) ns (opn e 0):=⟨ax hT.nd (fun k hk=>by rw [ak _ _ (by simpa using zm.out k hk),ak _ _ (by simpa using zm.out k hk)]),ax hT.op (fun k hk=>by rw [ak _ _ (by simpa using qQ.out k hk),ak _ _ (by simpa using qQ.out k hk)])⟩
  have HTS:Hid _:=Yl.below ((Below.refl _ _).alloc (Nat.le_refl _) (.cells #[.slice x1 ns.length c1,.slice x2 (opn e 0).length c2] 62))
  have hne:w.heap.size≠w1.heap.size:=by omega
  unfold aJ
  clear hT hb hr vH hW Yl
  go_wp2
  refine bodyPost_ret (v:=.tuple #[.agg #[.slice x1 ns.length c1,.slice x2 (opn e 0).length c2],.int .i64 0,.int .i64 0]) (by have s0:=S0.out;have s1:=S1.out;simp [results,Tryz.results36,go_sem,s0,s1]) rfl ⟨x1,ns.length,c1,x2,(opn e 0).length,c2,ns,rfl,?_,HTS.out,yT.out⟩
  exact ((HB.out.setCell (p:=⟨w.heap.size,0,none⟩) (Nat.le_refl _) _).setCell (p:=⟨w.heap.size,1,none⟩) (Nat.le_refl _) _).alloc (by have:=HB.out.size;simp [World.setCell];omega) _
theorem xF (s:ByteArray) (w:World) (hs:s.size<=9000) (e:PT) (hp:PE true (tokens s.data.toList) e []):Calls Tryz.prog 26 #[.string s] w fun v w'=>∃ x1 n1 c1 x2 n2 c2 ns,v=.returned (.tuple #[aJ (.slice x1 n1 c1) (.slice x2 n2 c2),.int .i64 (cC e).1,.int .i64 (cC e).2])/\Below w.heap.size w w'/\bg w' (.slice x1 n1 c1) (.slice x2 n2 c2) ns (opn e 0)/\NA [] e 0 ns/\dr e ns (posOf s.size (tokens s.data.toList)) s.size:=by
 have jL:=jn hp
 have vH:=fun w=>vh s w hs e hp
 have jj:=fun (w:World) (nv ov:Value) (ns:List NR) (bt:NA [] e 0 ns) (h:bg w nv ov ns (opn e 0))=>n9 w nv ov ns (opn e 0) h (zZ bt) (by have:=bt.len;omega) (bt.small (fun _ h=>by simp at h) (by omega)) (fun j n hj=>by have:=bt.back j n hj;simpa using this)
 unfold aJ at vH
 have Cf:Hid _:=jj
 have Ym:Hid _:=vH
 clear hp jj vH
 obtain ⟨ans,cQ⟩:∃ ans,ans=cC e:=⟨_,rfl⟩
 rw [<- cQ]
 have j8:Hid _:=cQ
 clear cQ
 go_enter Tryz.func26,Tryz.ntmps26
 go_wp2_with fail
 refine (Ym.out _).mono ?_
 rintro _ w1 ⟨x1,n1,c1,x2,n2,c2,ns,rfl,hb,hT,bt⟩
 have hr:=qp hb
 have hlt:=af hr
 have HB:Hid _:=mh hb
 have HR:Hid _:=hr
 have zm:Hid _:=vO hT.nd hr (by decide)
 have qQ:Hid _:=vO hT.op hr (by decide)
 have mr:=hT.below ((Below.refl _ w1).alloc (Nat.le_refl _) (.cells #[.slice x1 n1 c1,.slice x2 n2 c2] 62))
 have jj:=Cf.out (w1.alloc (.cells #[.slice x1 n1 c1,.slice x2 n2 c2] 62)) _ _ ns bt.1 mr
 rw [wJ bt.1,<- j8.out] at jj
 have yT:Hid _:=bt
 unfold aJ at jj
 clear hT hb hr Ym Cf bt
 go_wp2_with fail
 refine jj.mono ?_
 rintro _ w2 ⟨rfl,hb2⟩
 have Ds:Hid _:=mr.below hb2
 have hk:=qp hb2
 have k0:w2.cell? ⟨w1.heap.size,0,none⟩=some (.slice x1 n1 c1):=by rw [aa hk];rfl
 have k1:w2.cell? ⟨w1.heap.size,1,none⟩=some (.slice x2 n2 c2):=by rw [aa hk];rfl
 have eH:w2.heap[w.heap.size]?=some (.cells #[.slice none 0 0,.slice none 0 0] 62 (0,0)):=by
  rw [hb2.block _ (by simp;omega)];exact aN _ HR.out
 have r0:w2.cell? ⟨w.heap.size,0,none⟩=some (.slice none 0 0):=by rw [aa eH];rfl
 have r1:w2.cell? ⟨w.heap.size,1,none⟩=some (.slice none 0 0):=by rw [aa eH];rfl
 have f0:=ag eH 0
 have f1:=ag eH 1
 have lE:Below w.heap.size w w2:=HB.out.trans ((mh hb2).mono HB.out.size)
 have dU:Hid _:=lE
 have hne:w.heap.size≠w1.heap.size:=by omega
 clear hk eH hb2 lE jj mr
 go_wp2
 refine bodyPost_ret (v:=.tuple #[.agg #[.slice x1 n1 c1,.slice x2 n2 c2],.int .i64 ans.1,.int .i64 ans.2]) (by simp [results,Tryz.results26,go_sem,r0,r1]) rfl ⟨x1,n1,c1,x2,n2,c2,ns,rfl,?_,⟨ax Ds.out.nd (fun k hk=>by rw [ak _ _ (by simpa using zm.out k hk),ak _ _ (by simpa using zm.out k hk)]),ax Ds.out.op (fun k hk=>by rw [ak _ _ (by simpa using qQ.out k hk),ak _ _ (by simpa using qQ.out k hk)])⟩,yT.out⟩
 exact (dU.out.setCell (p:=⟨w.heap.size,0,none⟩) (Nat.le_refl _) _).setCell (p:=⟨w.heap.size,1,none⟩) (Nat.le_refl _) _
theorem Dw (s:ByteArray) (w:World) (e:PT) (y:Nat) (ans:Nat × Nat) (UU:∀ w,Calls Tryz.prog 26 #[.string s] w fun v w'=>∃ x1 n1 c1 x2 n2 c2 ns,v=.returned (.tuple #[aJ (.slice x1 n1 c1) (.slice x2 n2 c2),.int .i64 0,.int .i64 y])/\Below w.heap.size w w'/\bg w' (.slice x1 n1 c1) (.slice x2 n2 c2) ns (opn e 0)/\NA [] e 0 ns/\dr e ns (posOf s.size (tokens s.data.toList)) s.size)
  (rT:∀ (w':World) (x1:Option Addr) (n1 c1:Nat) (x2:Option Addr) (n2 c2:Nat) (ns:List NR),bg w' (.slice x1 n1 c1) (.slice x2 n2 c2) ns (opn e 0)->NA [] e 0 ns/\dr e ns (posOf s.size (tokens s.data.toList)) s.size->Calls Tryz.prog 27 #[aJ (.slice x1 n1 c1) (.slice x2 n2 c2)] w' fun v w''=>v=.returned (.tuple #[.int .i64 ans.1,.int .i64 ans.2])/\Below w'.heap.size w' w'') :
  Calls Tryz.prog 12 #[.string s] w fun v w'=>v=.returned (.tuple #[.int .i64 ans.1,.int .i64 ans.2])/\Below w.heap.size w w':=by
 unfold aJ at UU rT
 have HR:Hid _:=UU
 have HN:Hid _:=rT
 clear UU rT
 go_enter Tryz.func12,Tryz.ntmps12
 go_wp2_with fail
 refine (HR.out _).mono ?_
 rintro _ w1 ⟨x1,n1,c1,x2,n2,c2,ns,rfl,hb,hT,bt⟩
 have hb2:Below w1.heap.size w1 (w1.alloc (.cells #[.slice x1 n1 c1,.slice x2 n2 c2] 62)):=(Below.refl _ w1).alloc (Nat.le_refl _) _
 have QR:Hid _:=HN.out _ x1 n1 c1 x2 n2 c2 ns (hT.below hb2) bt
 have dU:Hid _:=hb.trans (hb2.mono hb.size)
 clear hb hT bt hb2 HR HN
 go_wp2_with fail
 refine Calls.mono QR.out ?_
 rintro _ w3 ⟨rfl,hb3⟩
 have iV:Hid _:=dU.out.trans (hb3.mono dU.out.size)
 clear hb3 QR dU
 go_wp2
 refine bodyPost_ret (v:=.tuple #[.int .i64 ans.1,.int .i64 ans.2]) (by simp [results,Tryz.results12,go_sem]) rfl ⟨rfl,iV.out⟩
end Go.Proofs.YtpicaknklgccoabGreatDoor
