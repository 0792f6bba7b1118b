import Derived.Test.YtpicaknklgccoabGreatDoorV3
namespace Go.Proofs.YtpicaknklgccoabGreatDoor
open Go.RowKit
theorem Tryz.qL:(Tryz.prog.info? 3).map (λi=>(i.zero,i.size,i.bytes))=some (some (.int .i64 0),1,8):=by kernel_rfl
theorem Tryz.qN:Tryz.prog.underlying 22=some (.slice 3):=by kernel_rfl
inductive sN | name | region | e | body
 deriving DecidableEq
def sN.wt:sN->Wt
 | .name=>.name
 | .region=>.region
 | .e=>.e
 | .body=>.e
def sO (k:Kw) (ae:Bool):List sN :=
 match k,ae with
 | .aP,_=>[.name,.e,.body]
 | .loop,_=>[.e,.name,.e,.body]
 | .pair,true=>[.region,.e,.e]
 | .new,_=>[.region,.e]
 | .pair,false=>[.e,.e]
 | .add,_=>[.e,.e]
 | .sub,_=>[.e,.e]
 | .less,_=>[.e,.e]
 | .fst,_=>[.e]
 | .snd,_=>[.e]
 | .di,_=>[.e,.e,.e]
theorem oh (k:Kw) (ae:Bool) (h:bP k ae≠[]):bP k ae=(sO k ae).map sN.wt++[.close]:=by
 cases k <;> cases ae <;> first | rfl | exact absurd rfl h
def QO:List sN->Bool
 | []=>true
 | .name::is=>!is.contains .name && is.head? != some .body && QO is
 | .region::is=>!is.contains .region && is.head? != some .body && QO is
 | .body::is=>!is.contains .name && QO is
 | .e::is=>QO is
theorem Jp (k:Kw) (ae:Bool):QO (sO k ae)=true:=by cases k <;> cases ae <;> decide
structure FS where
 parts:List Int
 word:List UInt8
 region:Int
def ik (len:Nat) (pE:PS->Int × PS):List sN->FS->PS->FS × PS
 | [],fs,st=>(fs,st)
 | .name::is,fs,st=>ik len pE is { fs with word:=(fE len st.l).word } (st.expect len 4)
 | .region::is,fs,st=>ik len pE is { fs with region:=(fE len st.l).num } (st.expect len 6)
 | .e::is,fs,st=>ik len pE is { fs with parts:=fs.parts++[(pE st).1] } (pE st).2
 | .body::is,fs,st=>ik len pE is { fs with parts:=fs.parts++[(fF pE fs.word (fs.parts.getLastD (-1)) st).1] } (fF pE fs.word (fs.parts.getLastD (-1)) st).2
def aZ (k:Kw):Nat:=dw (bR (.kw k))
def NR.filled (n:NR) (fs:FS):NR:={ n with word:=fs.word,region:=fs.region,p0:=fs.parts.getD 0 (-1),p1:=fs.parts.getD 1 (-1),p2:=fs.parts.getD 2 (-1) }
theorem vh (ae:Bool) (len:Nat) (pE:PS->Int × PS) (k:Kw) (hk:bP k ae≠[]) (at_ aL:Nat) (num:Int) (st:PS) :
  pJ ae len pE ⟨aZ k,at_,aL,num,[],0,-1,-1,-1,-1⟩ st =
   (NR.filled ⟨aZ k,at_,aL,num,[],0,-1,-1,-1,-1⟩ (ik len pE (sO k ae) ⟨[],[],0⟩ st).1,(ik len pE (sO k ae) ⟨[],[],0⟩ st).2):=by
 cases k <;> cases ae <;> first | rfl | exact absurd rfl hk
def az:List PT->Nat->List Int
 | [],_=>[]
 | t::r,base=>(((base+t.cnt:Nat):Int)-1)::az r (base+t.cnt)
mutual
def opn:PT->Nat->List Int
 | .num _ _,base=>[(base:Int)]
 | .name _ _,base=>[(base:Int)]
 | .node _ _ _ _ kids,base=>((base+ax kids:Nat):Int)::jS kids base
def jS:List PT->Nat->List Int
 | [],_=>[]
 | t::r,base=>opn t base++jS r (base+t.cnt)
end
def wA:List sN->List Bool
 | []=>[]
 | .name::is=>wA is
 | .region::is=>wA is
 | .e::is=>false::wA is
 | .body::is=>true::wA is
def bU:Kw->List Bool
 | .aP=>[false,true]
 | .loop=>[false,false,true]
 | .pair=>[false,false]
 | .new=>[false]
 | .add=>[false,false]
 | .sub=>[false,false]
 | .less=>[false,false]
 | .fst=>[false]
 | .snd=>[false]
 | .di=>[false,false,false]
theorem Ti (k:Kw) (ae:Bool):wA (sO k ae)=bU k:=by cases k <;> cases ae <;> rfl
abbrev Sc:=List (List UInt8 × Int)
mutual
def NA (scope:Sc):PT->Nat->List NR->Prop
 | .num p s,_,ns=>ns=[⟨1,p,p+s.length,ak s,[],0,-1,-1,-1,-1⟩]
 | .name p s,_,ns=>ns=[⟨2,p,p+s.length,0,s,0,cE scope s,-1,-1,-1⟩]
 | .node p k nm rg kids,base,ns=>∃ ks aL,cK scope nm kids (bU k) base ks /\
   ns=ks++[⟨aZ k,p,aL,0,nm,ak rg,-1,(az kids base).getD 0 (-1),(az kids base).getD 1 (-1),(az kids base).getD 2 (-1)⟩]
def cK (scope:Sc) (nm:List UInt8):List PT->List Bool->Nat->List NR->Prop
 | [],bs,_,ns=>bs=[]/\ns=[]
 | _::_,[],_,_=>False
 | t::r,b::bs,base,ns=>∃ a c,NA (if b then scope++[(nm,(base:Int)-1)] else scope) t base a/\cK scope nm r bs (base+t.cnt) c/\ns=a++c
end
mutual
theorem NA.len:∀ {scope:Sc} {t:PT} {base:Nat} {ns:List NR},NA scope t base ns->ns.length=t.cnt
 | _,.num _ _,_,_,h=>by simp only[NA] at h;subst h;rfl
 | _,.name _ _,_,_,h=>by simp only[NA] at h;subst h;rfl
 | _,.node _ _ _ _ kids,_,_,h=>by
  simp only[NA] at h;obtain⟨ks,aL,h1,rfl⟩:=h;have:=cK.len h1;simp only[List.length_append,List.length_cons,List.length_nil,PT.cnt,this];omega
theorem cK.len:∀ {scope:Sc} {nm:List UInt8} {ts:List PT} {bs:List Bool} {base:Nat} {ns:List NR},cK scope nm ts bs base ns->ns.length=ax ts
 | _,_,[],_,_,_,h=>by simp only[cK] at h;simp[h.2,ax]
 | _,_,_::_,[],_,_,h=>by simp[cK] at h
 | _,_,t::r,b::bs,_,_,h=>by
  simp only[cK] at h;obtain⟨a,c,h1,h2,rfl⟩:=h;have:=NA.len h1;have:=cK.len h2;simp only[List.length_append,ax];omega
end
mutual
theorem Jk:∀ (t:PT) (base:Nat),(opn t base).length=t.cnt
 | .num _ _,_=>rfl
 | .name _ _,_=>rfl
 | .node _ _ _ _ kids,base=>by have:=F8 kids base;simp only[opn,List.length_cons,PT.cnt,this];omega
theorem F8:∀ (ts:List PT) (base:Nat),(jS ts base).length=ax ts
 | [],_=>rfl
 | t::r,base=>by have:=Jk t base;have:=F8 r (base+t.cnt);simp only[jS,List.length_append,ax];omega
end
theorem cV (t:PT):0<t.cnt:=by cases t <;> simp[PT.cnt];omega
def Nr (ae:Bool) (pE:PS->Int × PS) (m:Nat):Prop:=∀ (l:List Tk) (e:PT) (r:List Tk),PE ae l e r->l.length<=m->∀ st:PS,st.l=l->st.fl=none ->
 ∃ ns,NA st.scope e st.nodes.length ns/\pE st=(((st.nodes.length+e.cnt:Nat):Int)-1,{ st with l:=r,nodes:=st.nodes++ns,opened:=st.opened++opn e st.nodes.length })
def NoE (ae:Bool) (len:Nat) (pE:PS->Int × PS) (m:Nat):Prop:=∀ l:List Tk,l.length<=m->(¬ ∃ e r,PE ae l e r)->∀ st:PS,st.l=l->st.fl=none ->
 ∃ q,(∀ p,bX ae len l (.e::p)=some q)/\(pE st).2.stuck q
theorem x8 {ae:Bool} {pE:PS->Int × PS} {m:Nat} (hY:Nr ae pE m) (w:List UInt8) (src:Int) {l:List Tk} {e:PT} {r:List Tk} (h:PE ae l e r) (hm:l.length<=m) (st:PS) (hl:st.l=l) (hf:st.fl=none) :
  ∃ ns,NA (st.scope++[(w,src)]) e st.nodes.length ns/\fF pE w src st=(((st.nodes.length+e.cnt:Nat):Int)-1,{ st with l:=r,nodes:=st.nodes++ns,opened:=st.opened++opn e st.nodes.length }):=by
 obtain⟨ns,h1,h2⟩:=hY l e r h hm { st with scope:=st.scope++[(w,src)] } hl hf;refine⟨ns,h1,?_⟩;unfold fF;simp only[h2,List.dropLast_concat]
theorem Jo {ae:Bool} (len:Nat) {pE:PS->Int × PS} {m:Nat} (hY:Nr ae pE m):∀ (is:List sN) (l:List Tk) (nm rg:List UInt8) (kids:List PT) (r:List Tk),PW ae (is.map sN.wt++[.close]) l nm rg kids r->QO is=true ->
  l.length<=m->∀ (st:PS) (fs:FS) (Kr:List UInt8),st.l=l->st.fl=none->(is.head?=some .body->fs.parts.getLastD (-1)=(st.nodes.length:Int)-1)->(if is.contains .name then nm else fs.word)=Kr ->
  ∃ t ns,t.c=.cls/\cK st.scope Kr kids (wA is) st.nodes.length ns /\
   ik len pE is fs st=(⟨fs.parts++az kids st.nodes.length,Kr,if is.contains .region then ak rg else fs.region⟩,{ st with l:=t::r,nodes:=st.nodes++ns,opened:=st.opened++jS kids st.nodes.length }):=by
 intro is
 induction is with
 | nil =>
  intro l nm rg kids r h _ hm st fs Kr hl hf _ hw;simp only[List.map_nil,List.nil_append] at h
  cases h with
  | close hc h1 =>
   cases h1
   refine⟨_,[],hc,⟨rfl,rfl⟩,?_⟩;simp only[ik,az,jS,List.append_nil];simp at hw;rw[<- hl,<- hw];rfl
 | cons i is ih =>
  intro l nm rg kids r h hwf hm st fs Kr hl hf hlast hw
  cases i with
  | name =>
   simp only[List.map_cons,sN.wt,List.cons_append] at h;simp only[QO,Bool.and_eq_true,Bool.not_eq_true'] at hwf;obtain⟨⟨hw1,hw2⟩,hw3⟩:=hwf
   cases h with
   | name hc h1 =>
    rename_i t r1 nm1
    simp only[List.length_cons] at hm
    have hk:(fE len st.l).kind=4:=by rw[hl];exact (nB _).2 hc
    have hex:st.expect len 4={ st with l:=r1 }:=by
     unfold PS.expect;rw[if_neg (by simp[hk])];simp[PS.tail,hl]
    have hword:(fE len st.l).word=t.s:=by rw[hl];simp[fE,iF,vV,hc]
    have hw':(if is.contains .name then nm1 else t.s)=Kr:=by
     rw[hw1];simpa using hw
    obtain⟨t',ns,h2,h3,h4⟩:=ih r1 nm1 rg kids r h1 hw3 (by omega) { st with l:=r1 } { fs with word:=t.s } Kr rfl hf (λe=>by rw[e] at hw2;simp at hw2) hw';refine⟨t',ns,h2,h3,?_⟩;simp only[ik];rw[hex,hword,h4];simp
  | region =>
   simp only[List.map_cons,sN.wt,List.cons_append] at h;simp only[QO,Bool.and_eq_true,Bool.not_eq_true'] at hwf;obtain⟨⟨hw1,hw2⟩,hw3⟩:=hwf
   cases h with
   | region hc h1 =>
    rename_i t r1 rg1
    simp only[List.length_cons] at hm
    have hk:(fE len st.l).kind=6:=by rw[hl];exact (qI _).2 hc
    have hex:st.expect len 6={ st with l:=r1 }:=by
     unfold PS.expect;rw[if_neg (by simp[hk])];simp[PS.tail,hl]
    have rG:(fE len st.l).num=ak t.s:=by rw[hl];simp[fE,iF,DE,hc]
    have hw':(if is.contains .name then nm else fs.word)=Kr:=by simpa using hw
    obtain⟨t',ns,h2,h3,h4⟩:=ih r1 nm rg1 kids r h1 hw3 (by omega) { st with l:=r1 } { fs with region:=ak t.s } Kr rfl hf (λe=>by rw[e] at hw2;simp at hw2) hw';refine⟨t',ns,h2,h3,?_⟩;simp only[ik];rw[hex,rG,h4,hw1];simp
  | e =>
   simp only[List.map_cons,sN.wt,List.cons_append] at h;simp only[QO] at hwf
   cases h with
   | e he h1 =>
    rename_i e r1 x5
    have hlt:=he.len;obtain⟨Q5,ct,fk⟩:=hY l e r1 he hm st hl hf
    have hw':(if is.contains .name then nm else fs.word)=Kr:=by simpa using hw
    have hlen:=ct.len
    obtain⟨t',ns,h2,h3,h4⟩:=ih r1 nm rg x5 r h1 hwf (by omega) (pE st).2 { fs with parts:=fs.parts++[(pE st).1] } Kr (by rw[fk]) (by rw[fk];exact hf)
     (λ_=>by rw[fk];simp[hlen]) hw'
    refine⟨t',Q5++ns,h2,?_,?_⟩
    ·rw[fk] at h3
     simp only[wA,cK];simp only[List.length_append,hlen] at h3;exact⟨Q5,ns,ct,h3,rfl⟩
    ·simp only[ik]
     rw[h4,fk];simp[az,jS,hlen]
  | body =>
   simp only[List.map_cons,sN.wt,List.cons_append] at h;simp only[QO,Bool.and_eq_true,Bool.not_eq_true'] at hwf
   cases h with
   | e he h1 =>
    rename_i e r1 x5
    have hlt:=he.len
    have hw0:fs.word=Kr:=by
     have:(sN.body::is).contains .name=false:=by simpa using hwf.1
     rw[this] at hw;simpa using hw
    have hla:=hlast rfl;obtain⟨Q5,ct,fk⟩:=x8 hY fs.word (fs.parts.getLastD (-1)) he hm st hl hf
    have hw':(if is.contains .name then nm else fs.word)=Kr:=by rw[hwf.1];simpa using hw0
    have hlen:=ct.len
    obtain⟨t',ns,h2,h3,h4⟩:=ih r1 nm rg x5 r h1 hwf.2 (by omega) (fF pE fs.word (fs.parts.getLastD (-1)) st).2 { fs with parts:=fs.parts++[(fF pE fs.word (fs.parts.getLastD (-1)) st).1] } Kr (by rw[fk]) (by rw[fk];exact hf)
     (λ_=>by rw[fk];simp[hlen]) hw'
    refine⟨t',Q5++ns,h2,?_,?_⟩
    ·rw[fk] at h3
     simp only[wA,cK];simp only[List.length_append,hlen] at h3;rw[hw0,hla] at ct;exact⟨Q5,ns,ct,h3,rfl⟩
    ·simp only[ik]
     rw[h4,fk];simp[az,jS,hlen]
theorem lG {pE:PS->Int × PS} (h:xC pE) (len:Nat) {q:Nat}:∀ (is:List sN) (fs:FS) (st:PS),st.stuck q->(ik len pE is fs st).2.stuck q:=by
 intro is
 induction is with
 | nil=>intro fs st hs;exact hs
 | cons i is ih =>
  intro fs st hs
  cases i with
  | name=>exact ih _ _ (eB hs)
  | region=>exact ih _ _ (eB hs)
  | e=>exact ih _ _ (h q st hs)
  | body=>exact ih _ _ (GJ h _ _ hs)
theorem lH {len k:Nat} {st:PS} (hf:st.fl=none) (hk:(fE len st.l).kind≠k):(st.expect len k).stuck (fE len st.l).at_:=by
 unfold PS.expect;rw[if_pos hk];exact lI hf
theorem Xx {ae:Bool} {len:Nat} {pE:PS->Int × PS} {m:Nat} (hY:Nr ae pE m) (hN:NoE ae len pE m) (hK:xC pE):∀ (is:List sN) (l:List Tk),(¬ ∃ nm rg kids r,PW ae (is.map sN.wt++[.close]) l nm rg kids r) ->
  l.length<=m->∀ (st:PS) (fs:FS),st.l=l->st.fl=none->∃ q,(∀ p,bX ae len l (is.map sN.wt++.close::p)=some q)/\((ik len pE is fs st).2.expect len 3).stuck q:=by
 intro is
 induction is with
 | nil =>
  intro l h hm st fs hl hf;simp only[List.map_nil,List.nil_append,ik] at h ⊢
  cases l with
  | nil=>exact⟨len,λp=>rfl,by have:=lH (len:=len) (k:=3) hf (by rw[hl];simp[fE]);rw[hl] at this;exact this⟩
  | cons t r =>
   by_cases hc:t.c=.cls
   ·exact absurd ⟨_,_,_,_,.close hc .nil⟩ h
   ·refine⟨t.at_,λp=>by simp only[bX,if_neg hc],?_⟩
    have:=lH (len:=len) (k:=3) hf (by rw[hl];exact λe=>hc ((uX _).1 e));rw[hl] at this;exact this
 | cons i is ih =>
  intro l h hm st fs hl hf
  cases i with
  | name =>
   simp only[List.map_cons,sN.wt,List.cons_append] at h ⊢;simp only[ik]
   cases l with
   | nil =>
    refine⟨len,λp=>rfl,?_⟩;have:=lH (len:=len) (k:=4) hf (by rw[hl];simp[fE]);rw[hl] at this;exact eB (lG hK len is _ _ this)
   | cons t r =>
    by_cases hc:t.c=.Ak
    ·have hk:(fE len st.l).kind=4:=by rw[hl];exact (nB _).2 hc
     have hex:st.expect len 4={ st with l:=r }:=by
      unfold PS.expect;rw[if_neg (by simp[hk])];simp[PS.tail,hl]
     rw[hex];obtain⟨q,h1,h2⟩:=ih r (λ⟨nm,rg,kids,r',hp⟩=>h ⟨_,_,_,_,.name hc hp⟩) (by simp at hm;omega) { st with l:=r } { fs with word:=(fE len st.l).word } rfl hf;exact⟨q,λp=>by simp only[bX,if_pos hc];exact h1 p,h2⟩
    ·refine⟨t.at_,λp=>by simp only[bX,if_neg hc],?_⟩
     have:=lH (len:=len) (k:=4) hf (by rw[hl];exact λe=>hc ((nB _).1 e));rw[hl] at this;exact eB (lG hK len is _ _ this)
  | region =>
   simp only[List.map_cons,sN.wt,List.cons_append] at h ⊢;simp only[ik]
   cases l with
   | nil =>
    refine⟨len,λp=>rfl,?_⟩;have:=lH (len:=len) (k:=6) hf (by rw[hl];simp[fE]);rw[hl] at this;exact eB (lG hK len is _ _ this)
   | cons t r =>
    by_cases hc:t.c=.GH
    ·have hk:(fE len st.l).kind=6:=by rw[hl];exact (qI _).2 hc
     have hex:st.expect len 6={ st with l:=r }:=by
      unfold PS.expect;rw[if_neg (by simp[hk])];simp[PS.tail,hl]
     rw[hex];obtain⟨q,h1,h2⟩:=ih r (λ⟨nm,rg,kids,r',hp⟩=>h ⟨_,_,_,_,.region hc hp⟩) (by simp at hm;omega) { st with l:=r } { fs with region:=(fE len st.l).num } rfl hf;exact⟨q,λp=>by simp only[bX,if_pos hc];exact h1 p,h2⟩
    ·refine⟨t.at_,λp=>by simp only[bX,if_neg hc],?_⟩
     have:=lH (len:=len) (k:=6) hf (by rw[hl];exact λe=>hc ((qI _).1 e));rw[hl] at this;exact eB (lG hK len is _ _ this)
  | e =>
   simp only[List.map_cons,sN.wt,List.cons_append] at h ⊢;simp only[ik]
   by_cases he:∃ e r,PE ae l e r
   ·obtain⟨e,r,he⟩:=he
    obtain⟨Q5,ct,fk⟩:=hY l e r he hm st hl hf;have hlt:=he.len;obtain⟨q,h1,h2⟩:=ih r (λ⟨nm,rg,kids,r',hp⟩=>h ⟨_,_,_,_,.e he hp⟩) (by omega) (pE st).2 { fs with parts:=fs.parts++[(pE st).1] } (by rw[fk]) (by rw[fk];exact hf);exact⟨q,λp=>by rw[he.sound];exact h1 p,h2⟩
   ·obtain⟨q,h1,h2⟩:=hN l hm he st hl hf
    exact⟨q,λp=>h1 _,eB (lG hK len is _ _ h2)⟩
  | body =>
   simp only[List.map_cons,sN.wt,List.cons_append] at h ⊢;simp only[ik]
   by_cases he:∃ e r,PE ae l e r
   ·obtain⟨e,r,he⟩:=he
    obtain⟨Q5,ct,fk⟩:=x8 hY fs.word (fs.parts.getLastD (-1)) he hm st hl hf;have hlt:=he.len;obtain⟨q,h1,h2⟩:=ih r (λ⟨nm,rg,kids,r',hp⟩=>h ⟨_,_,_,_,.e he hp⟩) (by omega) (fF pE fs.word (fs.parts.getLastD (-1)) st).2 { fs with parts:=fs.parts++[(fF pE fs.word (fs.parts.getLastD (-1)) st).1] } (by rw[fk]) (by rw[fk];exact hf);exact⟨q,λp=>by rw[he.sound];exact h1 p,h2⟩
   ·obtain⟨q,h1,h2⟩:=hN l hm he { st with scope:=st.scope++[(fs.word,fs.parts.getLastD (-1))] } hl hf
    exact⟨q,λp=>h1 _,eB (lG hK len is _ _ h2)⟩
theorem Tj (len:Nat) (pB:NR->PS->Int × PS) (st:PS) {t:Tk} {r:List Tk} (hl:st.l=t::r) (hc:t.c=.num) :
  jf len pB st=((st.nodes.length:Int),{ st with l:=r,nodes:=st.nodes++[⟨1,t.at_,t.at_+t.s.length,ak t.s,[],0,-1,-1,-1,-1⟩] }):=by
 simp[jf,hl,fE,iF,hc,bR,DE,PS.tail,PS.add,jM]
theorem Qm (len:Nat) (pB:NR->PS->Int × PS) (st:PS) {t:Tk} {r:List Tk} (hl:st.l=t::r) (hc:t.c=.Ak) :
  jf len pB st=((st.nodes.length:Int),{ st with l:=r,nodes:=st.nodes++[⟨2,t.at_,t.at_+t.s.length,0,t.s,0,cE st.scope t.s,-1,-1,-1⟩] }):=by
 simp[jf,hl,fE,iF,hc,bR,vV,PS.tail,PS.add,jM]
theorem yd (len:Nat) (pB:NR->PS->Int × PS) (st:PS) {t:Tk} {r:List Tk} (hl:st.l=t::r) (hc:t.c=.opn) :
  jf len pB st=pB ⟨0,t.at_,t.at_+t.s.length,0,[],0,-1,-1,-1,-1⟩ { st with l:=r }:=by
 simp[jf,hl,fE,iF,hc,bR,PS.tail,jM]
theorem Tl (len:Nat) (pB:NR->PS->Int × PS) (st:PS) {t:Tk} {r:List Tk} (hl:st.l=t::r) (h1:t.c≠.num) (h2:t.c≠.Ak) (h3:t.c≠.opn) (hf:st.fl=none):(jf len pB st).2.stuck t.at_:=by
 have e1:¬ bR t.c=5:=λh=>h1 ((KA _).1 h)
 have e2:¬ bR t.c=4:=λh=>h2 ((nB _).1 h)
 have e3:¬ bR t.c=2:=λh=>h3 ((KC _).1 h)
 unfold jf;simp only[hl,fE,iF,if_neg e1,if_neg e2,if_neg e3];exact lI hf
theorem Ks (len:Nat) (pB:NR->PS->Int × PS) (st:PS) (hl:st.l=[]) (hf:st.fl=none):(jf len pB st).2.stuck len:=by
 unfold jf;simp only[hl,fE];exact lI hf
theorem Ah (o X:List Int) (i:Int):(o++[-1]++X).set o.length i=o++i::X:=by
 rw[List.append_assoc,List.set_append_right _ _ (Nat.le_refl _)];simp
theorem og (c:Cl) (ae:Bool):(dw (bR c)=0\/(dw (bR c)=12/\ae=false))↔uW c ae=[]:=by
 cases c with
 | kw k=>cases k <;> cases ae <;> decide
 | _=>cases ae <;> decide
theorem Bd (k:Kw) (ae:Bool):(sO k ae).head?≠some .body:=by cases k <;> cases ae <;> decide
theorem PW.x9 {ae:Bool}:∀ {ws:List Wt} {l:List Tk} {nm rg:List UInt8} {kids:List PT} {r:List Tk},PW ae ws l nm rg kids r->Wt.name ∉ ws->nm=[]
 | _,_,_,_,_,_,.nil,_=>rfl
 | _,_,_,_,_,_,.close _ h1,hn=>PW.x9 h1 (λh=>hn (List.mem_cons_of_mem _ h))
 | _,_,_,_,_,_,.name _ _,hn=>absurd List.mem_cons_self hn
 | _,_,_,_,_,_,.region _ h1,hn=>PW.x9 h1 (λh=>hn (List.mem_cons_of_mem _ h))
 | _,_,_,_,_,_,.e _ h1,hn=>PW.x9 h1 (λh=>hn (List.mem_cons_of_mem _ h))
theorem PW.uM {ae:Bool}:∀ {ws:List Wt} {l:List Tk} {nm rg:List UInt8} {kids:List PT} {r:List Tk},PW ae ws l nm rg kids r->Wt.region ∉ ws->rg=[]
 | _,_,_,_,_,_,.nil,_=>rfl
 | _,_,_,_,_,_,.close _ h1,hn=>PW.uM h1 (λh=>hn (List.mem_cons_of_mem _ h))
 | _,_,_,_,_,_,.region _ _,hn=>absurd List.mem_cons_self hn
 | _,_,_,_,_,_,.name _ h1,hn=>PW.uM h1 (λh=>hn (List.mem_cons_of_mem _ h))
 | _,_,_,_,_,_,.e _ h1,hn=>PW.uM h1 (λh=>hn (List.mem_cons_of_mem _ h))
theorem pT (ae:Bool) (len:Nat):∀ n:Nat,Nr ae (fG ae len n) n/\NoE ae len (fG ae len n) n:=by
 intro n
 induction n with
 | zero =>
  constructor
  ·intro l e r h hm
   obtain⟨t,r',he,_⟩:=h.suffix;rw[he] at hm;simp at hm
  ·intro l hm _ st hl hf
   have Vz:l=[]:=List.length_eq_zero_iff.1 (by omega);subst Vz;refine⟨len,λp=>rfl,?_⟩;unfold fG jg;exact Ks len _ { st with opened:=st.opened++[-1] } hl hf
 | succ m ih =>
  constructor
  ·intro l e r h hm st hl hf
   cases h with
   | num hc =>
    rename_i t
    refine⟨_,rfl,?_⟩;unfold fG jg;rw[Tj len _ { st with opened:=st.opened++[-1] } hl hc];have:=Ah st.opened [] (st.nodes.length:Int);simp only[List.append_nil] at this;simp only[this,opn,PT.cnt]
    congr 1
    omega
   | name hc =>
    rename_i t
    refine⟨_,rfl,?_⟩;unfold fG jg;rw[Qm len _ { st with opened:=st.opened++[-1] } hl hc];have:=Ah st.opened [] (st.nodes.length:Int);simp only[List.append_nil] at this;simp only[this,opn,PT.cnt]
    congr 1
    omega
   | node hc hk hw h4 =>
    rename_i t u k r0 nm rg kids
    have A9:¬ (dw (bR u.c)=0\/(dw (bR u.c)=12/\ae=false)):=by
     rw[og,hk];exact hw
    rw[oh k ae hw] at h4;simp only[List.length_cons] at hm
    obtain⟨c,ns,h1,h2,h3⟩:=Jo len ih.1 (sO k ae) r0 nm rg kids r h4 (Jp k ae) (by omega)
     { st with opened:=st.opened++[-1],l:=r0 } ⟨[],[],0⟩ nm rfl hf (λe=>absurd e (Bd k ae)) (by
      split
      ·rfl
      ·rename_i hn
       have:Wt.name ∉ (sO k ae).map sN.wt++[.close]:=by
        intro hh
        rcases List.mem_append.1 hh with hh | hh
        ·obtain⟨i,hi,e⟩:=List.mem_map.1 hh
         cases i with
         | name=>exact hn (by simpa using hi)
         | _=>cases e
        ·simp at hh
       exact (PW.x9 h4 this).symm)
    rw[Ti] at h2;have hlen:=h2.len
    have hrg:(if (sO k ae).contains .region then ak rg else 0)=ak rg:=by
     split
     ·rfl
     ·rename_i hn
      have:Wt.region ∉ (sO k ae).map sN.wt++[.close]:=by
       intro hh
       rcases List.mem_append.1 hh with hh | hh
       ·obtain⟨i,hi,e⟩:=List.mem_map.1 hh
        cases i with
        | region=>exact hn (by simpa using hi)
        | _=>cases e
       ·simp at hh
      rw[PW.uM h4 this];rfl
    rw[hrg] at h3;refine⟨ns++[⟨aZ k,t.at_,c.at_+c.s.length,0,nm,ak rg,-1,(az kids st.nodes.length).getD 0 (-1),(az kids st.nodes.length).getD 1 (-1),(az kids st.nodes.length).getD 2 (-1)⟩],⟨ns,_,h2,rfl⟩,?_⟩;unfold fG jg;rw[yd len _ { st with opened:=st.opened++[-1] } hl hc];unfold ig;have htk:fE len (u::r0)=iF u:=rfl;simp only[htk];rw[if_neg (by simpa [iF] using A9)]
    have hform:dw (iF u).kind=aZ k:=by simp[iF,hk,aZ]
    rw[hform,vh ae len _ k hw];simp only[PS.tail,List.tail_cons];rw[h3];have hkc:(fE len (c::r)).kind=3:=(uX _).2 h1;simp only[PS.expect,hkc];rw[if_neg (by simp)];simp only[PS.tail,List.tail_cons,PS.add,NR.filled,List.nil_append,fE,iF,opn,PT.cnt];have:=Ah st.opened (jS kids st.nodes.length) ((st.nodes++ns).length:Int);rw[this];simp only[List.length_append,hlen,List.append_assoc]
    congr 1
    omega
  ·intro l hm hn st hl hf
   cases l with
   | nil =>
    refine⟨len,λp=>rfl,?_⟩;unfold fG jg;exact Ks len _ { st with opened:=st.opened++[-1] } hl hf
   | cons t r =>
    by_cases h1:t.c=.num
    ·exact absurd ⟨_,_,.num h1⟩ hn
    by_cases h2:t.c=.Ak
    ·exact absurd ⟨_,_,.name h2⟩ hn
    by_cases h3:t.c=.opn
    ·simp only[List.length_cons] at hm
     unfold fG jg;rw[yd len _ { st with opened:=st.opened++[-1] } hl h3];unfold ig
     cases r with
     | nil =>
      refine⟨len,λp=>by simp[bX,h3],?_⟩;simp only[fE,dw];exact lI hf
     | cons u r0 =>
      have htk:fE len (u::r0)=iF u:=rfl;simp only[htk]
      by_cases hw:uW u.c ae=[]
      ·have:=(og u.c ae).2 hw
       refine⟨u.at_,λp=>by simp[bX,h3,hw],?_⟩;rw[if_pos (by simpa [iF] using this)];exact lI hf
      ·have A9:¬ (dw (bR u.c)=0\/(dw (bR u.c)=12/\ae=false)):=λh=>hw ((og u.c ae).1 h)
       rw[if_neg (by simpa [iF] using A9)]
       cases hu:u.c with
       | kw k =>
        rw[hu] at hw;have hw':bP k ae≠[]:=hw
        have hform:dw (iF u).kind=aZ k:=by simp[iF,hu,aZ]
        rw[hform,vh ae len _ k hw'];simp only[PS.tail,List.tail_cons];simp only[List.length_cons] at hm
        obtain⟨q,hq1,QA⟩:=Xx (len:=len) ih.1 ih.2 (GI ae len m) (sO k ae) r0 (λ⟨nm,rg,kids,r',hp⟩=>hn ⟨_,_,.node h3 hu hw' (by rw[oh k ae hw'];exact hp)⟩) (by omega)
         { st with opened:=st.opened++[-1],l:=r0 } ⟨[],[],0⟩ rfl hf
        refine⟨q,λp=>?_,QA⟩;have:=hq1 p;simp only[bX,h3,hu,uW];rw[if_neg hw',oh k ae hw']
        simpa using this
       | _=>rw[hu] at hw;exact absurd rfl hw
    ·refine⟨t.at_,λp=>?_,?_⟩
     ·simp only[bX]
     ·unfold fG jg
      exact Tl len _ { st with opened:=st.opened++[-1] } hl h1 h2 h3 hf
def ps0 (l:List Tk):PS:=⟨l,none,[],[],[]⟩
def kB (ae:Bool) (len:Nat) (l:List Tk):PS:=(fG ae len l.length (ps0 l)).2.expect len 0
theorem tS {ae:Bool} {len:Nat} {l:List Tk} {e:PT} (h:PE ae l e []) :
  ∃ ns,NA [] e 0 ns/\kB ae len l=⟨[],none,[],ns,opn e 0⟩:=by
 obtain⟨ns,h1,h2⟩:=(pT ae len l.length).1 l e [] h (Nat.le_refl _) (ps0 l) rfl rfl;refine⟨ns,h1,?_⟩;unfold kB;rw[h2];simp[PS.expect,fE,PS.tail,ps0]
def ai (T:List Ty) (i:Int):Ty:=if 0<=i then (T[i.toNat]?).getD .n else .n
def cM (T:List Ty) (n:NR):Ty × Nat :=
 if n.form=2 then (if n.source=-1 then (.n,4) else (ai T n.source,0))
 else if n.form=12 then (ai T n.p0,0)
 else if n.form=3 then (ai T n.p1,0)
 else if n.form=4 then (if 63<(Ty.p 0 (ai T n.p0) (ai T n.p1)).size then (.n,6) else (.p 0 (ai T n.p0) (ai T n.p1),0))
 else if n.form=5 then (match ai T n.p0 with
  | .n=>(.n,5)
  | .p _ x _=>(x,0))
 else if n.form=6 then (match ai T n.p0 with
  | .n=>(.n,5)
  | .p _ _ x=>(x,0))
 else if n.form=7\/n.form=11 then (ai T n.p1,if ai T n.p0=.n/\ai T n.p1=ai T n.p2 then 0 else 5)
 else if n.form=8\/n.form=9\/n.form=10 then (.n,if ai T n.p0=.n/\ai T n.p1=.n then 0 else 5)
 else (.n,0)
def gL:List Ty->List NR->(Nat × Nat) × List Ty
 | T,[]=>((0,0),T)
 | T,n::r=>if (cM T n).2≠0 then (((cM T n).2,n.at_),T) else gL (T++[(cM T n).1]) r
theorem oJ:∀ (a b:List NR) (T:List Ty),gL T (a++b)=if (gL T a).1.1≠0 then gL T a else gL (gL T a).2 b
 | [],b,T=>by simp[gL]
 | n::r,b,T=>by
  simp only[List.cons_append,gL]
  by_cases h:(cM T n).2≠0
  ·simp[h]
  ·simp only[if_neg h];exact oJ r b _
theorem Mm (t:Ty):t.bare.size=t.size:=by
 induction t with
 | n=>rfl
 | p r a b aF bu=>simp[Ty.bare,Ty.size,aF,bu]
theorem tC (t:Ty):t.bare=.n↔t=.n:=by cases t <;> simp[Ty.bare]
def dS (T:List Ty):aV->Sc->Prop
 | [],[]=>True
 | x::e,y::s=>x.1=y.1/\0<=y.2/\T[y.2.toNat]?=some x.2.bare/\dS T e s
 | _,_=>False
theorem dS.app {T:List Ty}:∀ {e e':aV} {s s':Sc},dS T e s->dS T e' s'->dS T (e++e') (s++s')
 | [],_,[],_,_,h=>h
 | _::_,_,_::_,_,h,h'=>⟨h.1,h.2.1,h.2.2.1,dS.app h.2.2.2 h'⟩
 | [],_,_::_,_,h,_=>h.elim
 | _::_,_,[],_,h,_=>h.elim
theorem dS.rev {T:List Ty}:∀ {e:aV} {s:Sc},dS T e s->dS T e.reverse s.reverse
 | [],[],_=>trivial
 | _::_,_::_,h=>by
  rw[List.reverse_cons,List.reverse_cons];exact dS.app (dS.rev h.2.2.2) ⟨h.1,h.2.1,h.2.2.1,trivial⟩
 | [],_::_,h=>h.elim
 | _::_,[],h=>h.elim
theorem dS.more {T T':List Ty}:∀ {e:aV} {s:Sc},dS T e s->dS (T++T') e s
 | [],[],_=>trivial
 | _::_,_::_,h=>⟨h.1,h.2.1,by
   have h3:=h.2.2.1
   rw[List.getElem?_append_left (List.getElem?_eq_some_iff.1 h3).1];exact h3,dS.more h.2.2.2⟩
 | [],_::_,h=>h.elim
 | _::_,[],h=>h.elim
theorem dS.find {T:List Ty} (w:List UInt8):∀ {e:aV} {s:Sc},dS T e s ->
  (e.find? (λx=>x.1==w)=none/\s.find? (λx=>x.1==w)=none)\/(∃ x y,e.find? (λx=>x.1==w)=some x/\s.find? (λx=>x.1==w)=some y/\0<=y.2/\T[y.2.toNat]?=some x.2.bare)
 | [],[],_=>Or.inl ⟨rfl,rfl⟩
 | x::_,y::_,h=>by
  rw[List.find?_cons,List.find?_cons,<- h.1]
  by_cases hw:(x.1==w)=true
  ·rw[hw];exact Or.inr ⟨x,y,rfl,rfl,h.2.1,h.2.2.1⟩
  ·have hw':(x.1==w)=false:=by simpa using hw
   rw[hw'];exact dS.find w h.2.2.2
 | [],_::_,h=>h.elim
 | _::_,[],h=>h.elim
theorem dS.look {T:List Ty} {e:aV} {s:Sc} (h:dS T e s) (w:List UInt8) :
  (look e w=none/\cE s w=-1)\/(∃ t,look e w=some t/\cE s w≠-1/\ai T (cE s w)=t.bare):=by
 rcases h.rev.find w with ⟨h1,h2⟩ | ⟨x,y,h1,h2,h3,h4⟩
 ·left;unfold Go.Proofs.YtpicaknklgccoabGreatDoor.look cE;rw[h1,h2];exact⟨rfl,rfl⟩
 ·right
  refine⟨x.2,?_,?_,?_⟩
  ·unfold Go.Proofs.YtpicaknklgccoabGreatDoor.look;rw[h1];rfl
  ·unfold cE;rw[h2];simp only;omega
  ·unfold cE ai;rw[h2];simp only;rw[if_pos h3,h4];rfl
theorem Mn (st:fY) (e p:Nat) (h:st.e≠0):gC st e p=st:=by unfold gC;rw[if_neg h]
theorem nR (id p:Nat) (x:Ty × fY) (h:x.2.e≠0):(fin id p x).2.e=x.2.e/\(fin id p x).2.at_=x.2.at_:=by
 unfold fin;simp only;rw[if_neg (λhh=>h hh.1)];exact⟨rfl,rfl⟩
mutual
theorem dJ (cls:List Nat):∀ (t:PT) (id site:Nat) (env:aV) (st:fY),st.e≠0->(aH cls t id site env st).2.e=st.e/\(aH cls t id site env st).2.at_=st.at_
 | .num p s,id,site,env,st,h=>by simp only[aH];exact nR _ _ _ h
 | .name p s,id,site,env,st,h=>by
  simp only[aH]
  split
  ·exact nR _ _ _ h
  ·rw[Mn _ _ _ h];exact nR _ _ _ h
 | .node p k nm rg kids,id,site,env,st,h=>by
  simp only[aH]
  split
  ·have:=I1 cls nm kids (id+1) site env st h
   have h2:=nR id p (fZ cls nm kids (id+1) site env st) (by rw[this.1];exact h);exact⟨h2.1.trans this.1,h2.2.trans this.2⟩
  ·have hx:(if k=.loop then bS cls nm kids (id+1) site env st else bW cls kids (id+1) (site+if k=.pair then 1 else 0) env st).2.e=st.e/\(if k=.loop then bS cls nm kids (id+1) site env st else bW cls kids (id+1) (site+if k=.pair then 1 else 0) env st).2.at_=st.at_:=by
    by_cases hk:k=.loop
    ·simp only[if_pos hk];exact F9 cls nm kids _ _ env st h
    ·simp only[if_neg hk];exact pQ cls kids _ _ env st h
   generalize (if k=.loop then bS cls nm kids (id+1) site env st else bW cls kids (id+1) (site+if k=.pair then 1 else 0) env st)=x at hx
   have hne:x.2.e≠0:=by rw[hx.1];exact h
   rw[if_pos hne];have h2:=nR id p (Ty.n,x.2) hne;exact⟨h2.1.trans hx.1,h2.2.trans hx.2⟩
theorem pQ (cls:List Nat):∀ (ts:List PT) (id site:Nat) (env:aV) (st:fY),st.e≠0->(bW cls ts id site env st).2.e=st.e/\(bW cls ts id site env st).2.at_=st.at_
 | [],_,_,_,st,_=>by simp[bW]
 | a::r,id,site,env,st,h=>by
  simp only[bW];have h1:=dJ cls a id site env st h;have h2:=pQ cls r (id+a.cnt) (site+a.bz) env (aH cls a id site env st).2 (by rw[h1.1];exact h);exact⟨h2.1.trans h1.1,h2.2.trans h1.2⟩
theorem I1 (cls:List Nat) (nm:List UInt8):∀ (ts:List PT) (id site:Nat) (env:aV) (st:fY),st.e≠0->(fZ cls nm ts id site env st).2.e=st.e/\(fZ cls nm ts id site env st).2.at_=st.at_
 | [a,b],id,site,env,st,h=>by
  simp only[fZ];have h1:=dJ cls a id site env st h;have h2:=dJ cls b (id+a.cnt) (site+a.bz) (env++[(nm,(aH cls a id site env st).1)]) (aH cls a id site env st).2 (by rw[h1.1];exact h);exact⟨h2.1.trans h1.1,h2.2.trans h1.2⟩
 | [],_,_,_,st,_=>by simp[fZ]
 | [_],_,_,_,st,_=>by simp[fZ]
 | _::_::_::_,_,_,_,st,_=>by simp[fZ]
theorem F9 (cls:List Nat) (nm:List UInt8):∀ (ts:List PT) (id site:Nat) (env:aV) (st:fY),st.e≠0->(bS cls nm ts id site env st).2.e=st.e/\(bS cls nm ts id site env st).2.at_=st.at_
 | [a,b,c],id,site,env,st,h=>by
  simp only[bS];have h1:=dJ cls a id site env st h;have h2:=dJ cls b (id+a.cnt) (site+a.bz) env (aH cls a id site env st).2 (by rw[h1.1];exact h);have h3:=dJ cls c (id+a.cnt+b.cnt) (site+a.bz+b.bz) (env++[(nm,(aH cls b (id+a.cnt) (site+a.bz) env (aH cls a id site env st).2).1)]) (aH cls b (id+a.cnt) (site+a.bz) env (aH cls a id site env st).2).2 (by rw[h2.1,h1.1];exact h);exact⟨h3.1.trans (h2.1.trans h1.1),h3.2.trans (h2.2.trans h1.2)⟩
 | [],_,_,_,st,_=>by simp[bS]
 | [_],_,_,_,st,_=>by simp[bS]
 | [_,_],_,_,_,st,_=>by simp[bS]
 | _::_::_::_::_,_,_,_,st,_=>by simp[bS]
end
def tH (cls:List Nat) (nm:List UInt8):List PT->List Bool->Nat->Nat->aV->Ty->fY->List Ty × fY
 | a::r,b::bs,id,site,env,prev,st =>
  let x:=aH cls a id site (if b then env++[(nm,prev)] else env) st
  let y:=tH cls nm r bs (id+a.cnt) (site+a.bz) env x.1 x.2
  (x.1::y.1,y.2)
 | _,_,_,_,_,_,st=>([],st)
theorem Ga (cls:List Nat) (nm:List UInt8):∀ (ts:List PT) (bs:List Bool) (id site:Nat) (env:aV) (prev:Ty) (st:fY),bs.length=ts.length->(∀ b∈bs,b=false)->tH cls nm ts bs id site env prev st=bW cls ts id site env st
 | [],[],_,_,_,_,_,_,_=>by simp[tH,bW]
 | a::r,b::bs,id,site,env,prev,st,h,hb=>by
  have hb0:b=false:=hb b List.mem_cons_self;subst hb0;simp only[tH,bW,Bool.false_eq_true,if_false];rw[Ga cls nm r bs _ _ _ _ _ (by simpa using h) (λb hb'=>hb b (List.mem_cons_of_mem _ hb'))]
 | [],_::_,_,_,_,_,_,h,_=>by simp at h
 | _::_,[],_,_,_,_,_,h,_=>by simp at h
theorem Kt (cls:List Nat) (nm:List UInt8):∀ (ts:List PT) (bs:List Bool) (id site:Nat) (env:aV) (prev:Ty) (st:fY),bs.length=ts.length->(tH cls nm ts bs id site env prev st).1.length=bs.length
 | [],[],_,_,_,_,_,_=>by simp[tH]
 | a::r,b::bs,id,site,env,prev,st,h=>by
  simp only[tH,List.length_cons];rw[Kt cls nm r bs _ _ _ _ _ (by simpa using h)]
 | [],_::_,_,_,_,_,_,h=>by simp at h
 | _::_,[],_,_,_,_,_,h=>by simp at h
theorem Gb (cls:List Nat) (nm:List UInt8):∀ (ts:List PT) (bs:List Bool) (id site:Nat) (env:aV) (prev:Ty) (st:fY),st.e≠0->(tH cls nm ts bs id site env prev st).2.e=st.e/\(tH cls nm ts bs id site env prev st).2.at_=st.at_
 | a::r,b::bs,id,site,env,prev,st,h=>by
  simp only[tH];have h1:=dJ cls a id site (if b then env++[(nm,prev)] else env) st h;have h2:=Gb cls nm r bs (id+a.cnt) (site+a.bz) env (aH cls a id site (if b then env++[(nm,prev)] else env) st).1 (aH cls a id site (if b then env++[(nm,prev)] else env) st).2 (by rw[h1.1];exact h);exact⟨h2.1.trans h1.1,h2.2.trans h1.2⟩
 | [],_,_,_,_,_,_,_=>by simp[tH]
 | _::_,[],_,_,_,_,_,_=>by simp[tH]
def Agree (T:List Ty) (n:Nat) (e at_:Nat) (y:(Nat × Nat) × List Ty) (P:List Ty->Prop):Prop :=
 (e=0/\y.1=(0,0)/\∃ T',y.2=T++T'/\T'.length=n/\P (T++T'))\/(e≠0/\y.1=(e,at_))
theorem yf {T:List Ty} {i:Nat} {t:Ty} (h:T[i]?=some t):ai T (i:Int)=t:=by
 unfold ai;rw[if_pos (by omega)];simp[h]
theorem mh (id p:Nat) (x:Ty × fY) (h:x.1.size<=63):(fin id p x).1=x.1/\(fin id p x).2.e=x.2.e/\(fin id p x).2.at_=x.2.at_:=by
 have hn:¬ (x.2.e=0/\63<x.1.size):=by omega
 simp only[fin,if_neg hn,and_self]
theorem Qn (id p:Nat) (x:Ty × fY) (h0:x.2.e=0) (h:63<x.1.size):(fin id p x).2.e=6/\(fin id p x).2.at_=p:=by
 unfold fin gC;simp only;rw[if_pos ⟨h0,h⟩,if_pos h0];exact⟨rfl,rfl⟩
def bO (cls:List Nat) (k:Kw) (p site:Nat) (ks:List Ty) (st:fY):Ty × fY :=
 if k=.aP then (ks.getD 1 .n,st) else cZ cls k p site ks st
theorem acH (st:fY) (p id:Nat) (h:st.e=0):(fin id p (Ty.n,gC st 5 p)).2.e=5/\(fin id p (Ty.n,gC st 5 p)).2.at_=p:=by
 have h1:(gC st 5 p).e=5/\(gC st 5 p).at_=p:=by unfold gC;rw[if_pos h];exact⟨rfl,rfl⟩
 have:=mh id p (Ty.n,gC st 5 p) (by simp[Ty.size]);exact⟨this.2.1.trans h1.1,this.2.2.trans h1.2⟩
theorem Mo (cls:List Nat) (k:Kw) (id p site:Nat) (ks:List Ty) (st:fY) (T:List Ty) (aL:Nat) (nm:List UInt8) (rg:Int) (p0 p1 p2:Int) (hl:ks.length=(bU k).length) (h0:st.e=0) (hs:∀ t∈ks,t.size<=63)
  (k0:∀ t,ks[0]?=some t->ai T p0=t.bare) (k1:∀ t,ks[1]?=some t->ai T p1=t.bare) (k2:∀ t,ks[2]?=some t->ai T p2=t.bare) :
  ((fin id p (bO cls k p site ks st)).2.e=0/\cM T ⟨aZ k,p,aL,0,nm,rg,-1,p0,p1,p2⟩=((fin id p (bO cls k p site ks st)).1.bare,0)) \/
  ((fin id p (bO cls k p site ks st)).2.e≠0/\(cM T ⟨aZ k,p,aL,0,nm,rg,-1,p0,p1,p2⟩).2=(fin id p (bO cls k p site ks st)).2.e/\(fin id p (bO cls k p site ks st)).2.at_=p):=by
 have small:∀ (t:Ty) (f:NR),t.size<=63->bO cls k p site ks st=(t,st)->cM T f=(t.bare,0)->((fin id p (bO cls k p site ks st)).2.e=0/\cM T f=((fin id p (bO cls k p site ks st)).1.bare,0))\/((fin id p (bO cls k p site ks st)).2.e≠0/\(cM T f).2=(fin id p (bO cls k p site ks st)).2.e/\(fin id p (bO cls k p site ks st)).2.at_=p):=by
  intro t f ht he hf;rw[he];have:=mh id p (t,st) ht;exact Or.inl ⟨this.2.1.trans h0,by rw[this.1];exact hf⟩
 have bad:∀ (f:NR),bO cls k p site ks st=(.n,gC st 5 p)->(cM T f).2=5->((fin id p (bO cls k p site ks st)).2.e=0/\cM T f=((fin id p (bO cls k p site ks st)).1.bare,0))\/((fin id p (bO cls k p site ks st)).2.e≠0/\(cM T f).2=(fin id p (bO cls k p site ks st)).2.e/\(fin id p (bO cls k p site ks st)).2.at_=p):=by
  intro f he hf;rw[he];have:=acH st p id h0;exact Or.inr ⟨by rw[this.1];decide,by rw[this.1];exact hf,this.2⟩
 match k,ks,hl with
 | .aP,[a,b],_ =>
  have e1:=k1 b rfl;exact small b _ (hs b (by simp)) (by simp[bO]) (by simp[cM,aZ,bR,dw,e1])
 | .new,[a],_ =>
  have e0:=k0 a rfl;exact small a _ (hs a (by simp)) (by simp[bO,cZ]) (by simp[cM,aZ,bR,dw,e0])
 | .pair,[a,b],_ =>
  have e0:=k0 a rfl;have e1:=k1 b rfl
  have he:bO cls .pair p site [a,b] st=(.p (cls.getD site 0) a b,st):=by simp[bO,cZ]
  generalize cls.getD site 0=g at he
  have hsz:(Ty.p 0 a.bare b.bare).size=(Ty.p g a b).size:=by simp[Ty.size,Mm]
  by_cases Qo:63<(Ty.p g a b).size
  ·right
   rw[he];have:=Qn id p (.p g a b,st) h0 Qo;refine⟨by rw[this.1];decide,?_,this.2⟩;rw[this.1];simp only[cM,aZ,bR,dw,e0,e1,hsz];simp[Qo]
  ·exact small _ _ (by omega) he (by simp only[cM,aZ,bR,dw,e0,e1,hsz];simp[Qo,Ty.bare])
 | .fst,[a],_ =>
  have e0:=k0 a rfl
  cases a with
  | n=>exact bad _ (by simp[bO,cZ]) (by simp only[cM,aZ,bR,dw,e0];simp[Ty.bare])
  | p r x y =>
   have hsx:x.size<=63:=by have:=hs (.p r x y) (by simp);simp only[Ty.size] at this;omega
   exact small x _ hsx (by simp[bO,cZ]) (by simp only[cM,aZ,bR,dw,e0];simp[Ty.bare])
 | .snd,[a],_ =>
  have e0:=k0 a rfl
  cases a with
  | n=>exact bad _ (by simp[bO,cZ]) (by simp only[cM,aZ,bR,dw,e0];simp[Ty.bare])
  | p r x y =>
   have hsx:y.size<=63:=by have:=hs (.p r x y) (by simp);simp only[Ty.size] at this;omega
   exact small y _ hsx (by simp[bO,cZ]) (by simp only[cM,aZ,bR,dw,e0];simp[Ty.bare])
 | .di,[a,b,c],_ =>
  have e0:=k0 a rfl;have e1:=k1 b rfl;have e2:=k2 c rfl
  by_cases hh:a=.n/\b.bare=c.bare
  ·exact small b _ (hs b (by simp)) (by simp[bO,cZ,hh]) (by simp only[cM,aZ,bR,dw,e0,e1,e2];simp[tC,hh])
  ·exact bad _ (by simp only[bO,cZ];simp[hh]) (by simp only[cM,aZ,bR,dw,e0,e1,e2];simp only[tC];simp[hh])
 | .loop,[a,b,c],_ =>
  have e0:=k0 a rfl;have e1:=k1 b rfl;have e2:=k2 c rfl
  by_cases hh:a=.n/\b.bare=c.bare
  ·exact small b _ (hs b (by simp)) (by simp[bO,cZ,hh]) (by simp only[cM,aZ,bR,dw,e0,e1,e2];simp[tC,hh])
  ·exact bad _ (by simp only[bO,cZ];simp[hh]) (by simp only[cM,aZ,bR,dw,e0,e1,e2];simp only[tC];simp[hh])
 | .add,[a,b],_ =>
  have e0:=k0 a rfl;have e1:=k1 b rfl
  by_cases hh:a=.n/\b=.n
  ·exact small .n _ (by simp[Ty.size]) (by simp[bO,cZ,hh]) (by simp only[cM,aZ,bR,dw,e0,e1];simp[hh,Ty.bare])
  ·exact bad _ (by simp only[bO,cZ];simp[hh]) (by simp only[cM,aZ,bR,dw,e0,e1];simp only[tC];simp[hh])
 | .sub,[a,b],_ =>
  have e0:=k0 a rfl;have e1:=k1 b rfl
  by_cases hh:a=.n/\b=.n
  ·exact small .n _ (by simp[Ty.size]) (by simp[bO,cZ,hh]) (by simp only[cM,aZ,bR,dw,e0,e1];simp[hh,Ty.bare])
  ·exact bad _ (by simp only[bO,cZ];simp[hh]) (by simp only[cM,aZ,bR,dw,e0,e1];simp only[tC];simp[hh])
 | .less,[a,b],_ =>
  have e0:=k0 a rfl;have e1:=k1 b rfl
  by_cases hh:a=.n/\b=.n
  ·exact small .n _ (by simp[Ty.size]) (by simp[bO,cZ,hh]) (by simp only[cM,aZ,bR,dw,e0,e1];simp[hh,Ty.bare])
  ·exact bad _ (by simp only[bO,cZ];simp[hh]) (by simp only[cM,aZ,bR,dw,e0,e1];simp only[tC];simp[hh])
theorem cK.aa2 {scope:Sc} {nm:List UInt8}:∀ {ts:List PT} {bs:List Bool} {base:Nat} {ns:List NR},cK scope nm ts bs base ns->bs.length=ts.length
 | [],_,_,_,h=>by simp only[cK] at h;simp[h.1]
 | _::_,[],_,_,h=>by simp[cK] at h
 | t::r,b::bs,_,_,h=>by
  simp only[cK] at h;obtain⟨a,c,h1,h2,rfl⟩:=h;simp[cK.aa2 h2]
theorem Qp (cls:List Nat) (p:Nat) (k:Kw) (nm rg:List UInt8) (kids:List PT) (id site:Nat) (env:aV) (prev:Ty) (st:fY) (hl:(bU k).length=kids.length) :
  aH cls (.node p k nm rg kids) id site env st=fin id p (
   if (tH cls nm kids (bU k) (id+1) (site+if k=.pair then 1 else 0) env prev st).2.e≠0/\k≠.aP then (.n,(tH cls nm kids (bU k) (id+1) (site+if k=.pair then 1 else 0) env prev st).2)
   else bO cls k p site (tH cls nm kids (bU k) (id+1) (site+if k=.pair then 1 else 0) env prev st).1 (tH cls nm kids (bU k) (id+1) (site+if k=.pair then 1 else 0) env prev st).2):=by
 have hk:∀ bs,bU k=bs->(∀ b∈bs,b=false)->tH cls nm kids (bU k) (id+1) (site+if k=.pair then 1 else 0) env prev st=bW cls kids (id+1) (site+if k=.pair then 1 else 0) env st:=by
  intro bs hb h;exact Ga cls nm kids (bU k) _ _ env prev st hl (by rw[hb];exact h)
 by_cases h1:k=.aP
 ·subst h1
  match kids,hl with
  | [a,b],_=>simp[aH,fZ,tH,bU,bO]
 by_cases h2:k=.loop
 ·subst h2
  match kids,hl with
  | [a,b,c],_=>simp[aH,bS,tH,bU,bO]
 have h3:∀ b∈bU k,b=false:=by
  revert h1 h2;cases k <;> simp[bU]
 rw[hk _ rfl h3];simp only[aH,if_neg h1,if_neg h2,bO];simp[h1]
mutual
theorem YC (cls:List Nat) (hc:∀ x∈cls,x<1000):∀ (t:PT) (scope:Sc) (ns:List NR) (env:aV) (st:fY) (T:List Ty) (id site:Nat),NA scope t T.length ns->dS T env scope->st.e=0->nM env st ->
  Agree T t.cnt (aH cls t id site env st).2.e (aH cls t id site env st).2.at_ (gL T ns) (λT1=>T1[T.length+t.cnt-1]?=some (aH cls t id site env st).1.bare)
 | .num p s,scope,ns,env,st,T,id,site,hn,_,h0,_=>by
  simp only[NA] at hn;subst hn;simp only[aH];have hf:=mh id p (Ty.n,st) (by simp[Ty.size])
  left
  refine⟨hf.2.1.trans h0,by simp[gL,cM],[.n],by simp[gL,cM],rfl,?_⟩;rw[hf.1];simp[PT.cnt,Ty.bare]
 | .name p s,scope,ns,env,st,T,id,site,hn,hr,h0,ho=>by
  simp only[NA] at hn;subst hn;simp only[aH]
  rcases hr.look s with ⟨h1,h2⟩ | ⟨t,h1,h2,h3⟩
  ·rw[h1]
   simp only;have hf:=mh id p (Ty.n,gC st 4 p) (by simp[Ty.size])
   have he:(gC st 4 p).e=4/\(gC st 4 p).at_=p:=by unfold gC;rw[if_pos h0];exact⟨rfl,rfl⟩
   right
   refine⟨by rw[hf.2.1];simp[he.1],?_⟩;rw[hf.2.1,hf.2.2];simp[gL,cM,h2,he]
  ·rw[h1]
   simp only;obtain⟨x,hx,rfl⟩:=EY h1;have hf:=mh id p (x.2,st) (ho.2 h0 x hx)
   left
   refine⟨hf.2.1.trans h0,by simp[gL,cM,h2],[x.2.bare],by simp[gL,cM,h2,h3],rfl,?_⟩;rw[hf.1];simp[PT.cnt]
 | .node p k nm rg kids,scope,ns,env,st,T,id,site,hn,hr,h0,ho=>by
  simp only[NA] at hn;obtain⟨ks,aL,hks,rfl⟩:=hn;have hb:=hks.aa2;have hK:=UN cls hc nm kids (bU k) scope ks env .n st T (id+1) (site+if k=.pair then 1 else 0) hks hr h0 ho qy (by simp[Ty.size]) (λe=>by revert e;cases k <;> simp[bU]);have hlen:(tH cls nm kids (bU k) (id+1) (site+if k=.pair then 1 else 0) env .n st).1.length=(bU k).length:=Kt cls nm kids (bU k) _ _ _ _ _ hb;rw[Qp cls p k nm rg kids id site env .n st hb];generalize tH cls nm kids (bU k) (id+1) (site+if k=.pair then 1 else 0) env .n st=x at hK hlen;rw[oJ];obtain⟨hA,hS⟩:=hK
  rcases hA with ⟨e0,hy,T',hT',Qq,hP⟩ | ⟨e1,hy⟩
  ·have aa3:¬ (x.2.e≠0/\k≠.aP):=λh=>h.1 e0
   rw[if_neg aa3,hy,if_neg (by simp),hT'];have hnm:=Mo cls k id p site x.1 x.2 (T++T') aL nm (ak rg) ((az kids T.length).getD 0 (-1)) ((az kids T.length).getD 1 (-1)) ((az kids T.length).getD 2 (-1)) hlen e0 (λt ht=>hS e0 t ht) (hP 0) (hP 1) (hP 2);simp only[gL]
   rcases hnm with ⟨f0,ft⟩ | ⟨f1,f2,f3⟩
   ·left
    rw[ft];refine⟨f0,by simp,T'++[(fin id p (bO cls k p site x.1 x.2)).1.bare],by simp,by simp[Qq,PT.cnt];omega,?_⟩
    show (T++(T'++[_]))[_]?=_
    have hi:T.length+(PT.node p k nm rg kids).cnt-1=(T++T').length:=by simp[Qq,PT.cnt];omega
    rw[<- List.append_assoc,hi,List.getElem?_append_right (Nat.le_refl _)];simp
   ·right
    rw[f2,if_pos f1];exact⟨f1,by simp[f3]⟩
  ·have hne:(gL T ks).1.1≠0:=by rw[hy];exact e1
   rw[if_pos hne]
   right
   have hst:∀ y:Ty × fY,y.2=x.2->(fin id p y).2.e≠0/\(gL T ks).1=((fin id p y).2.e,(fin id p y).2.at_):=by
    intro y hyx;have:=nR id p y (by rw[hyx];exact e1);rw[this.1,this.2,hyx];exact⟨e1,hy⟩
   by_cases hk:k=.aP
   ·rw[if_neg (λh=>h.2 hk)]
    exact hst _ (by simp[bO,hk])
   ·rw[if_pos ⟨e1,hk⟩]
    exact hst _ rfl
theorem UN (cls:List Nat) (hc:∀ x∈cls,x<1000) (nm:List UInt8):∀ (ts:List PT) (bs:List Bool) (scope:Sc) (ns:List NR) (env:aV) (prev:Ty) (st:fY) (T:List Ty) (id site:Nat),cK scope nm ts bs T.length ns->dS T env scope->st.e=0->nM env st ->
  prev.fit->prev.size<=63->(bs.head?=some true->0<T.length/\T[T.length-1]?=some prev.bare) ->
  Agree T (ax ts) (tH cls nm ts bs id site env prev st).2.e (tH cls nm ts bs id site env prev st).2.at_ (gL T ns) (λT1=>∀ (j:Nat) (t:Ty),(tH cls nm ts bs id site env prev st).1[j]?=some t->ai T1 ((az ts T.length).getD j (-1))=t.bare) /\
   ((tH cls nm ts bs id site env prev st).2.e=0->∀ t∈(tH cls nm ts bs id site env prev st).1,t.size<=63)
 | [],bs,scope,ns,env,prev,st,T,id,site,hn,_,h0,_,_,_,_=>by
  simp only[cK] at hn;obtain⟨rfl,rfl⟩:=hn;simp only[tH];exact⟨Or.inl ⟨h0,rfl,[],by simp[gL],rfl,by simp⟩,by simp⟩
 | _::_,[],_,_,_,_,_,_,_,_,hn,_,_,_,_,_,_=>by simp[cK] at hn
 | a::r,b::bs,scope,ns,env,prev,st,T,id,site,hn,hr,h0,ho,fk,oU,hp3=>by
  simp only[cK] at hn;obtain⟨na,nc,h1,h2,rfl⟩:=hn
  have hr':dS T (if b then env++[(nm,prev)] else env) (if b then scope++[(nm,(T.length:Int)-1)] else scope):=by
   cases b with
   | false=>exact hr
   | true =>
    obtain⟨hT0,oN⟩:=hp3 rfl;refine hr.app ⟨rfl,?_,?_,trivial⟩
    ·show (0:Int)<=(T.length:Int)-1;omega
    ·show T[((T.length:Int)-1).toNat]?=_
     rw[show ((T.length:Int)-1).toNat=T.length-1 from by omega];exact oN
  have MF:nM (if b then env++[(nm,prev)] else env) st:=by
   cases b with
   | false=>exact ho
   | true =>
    constructor
    ·intro x hx
     rcases List.mem_append.1 hx with hx | hx
     ·exact ho.1 x hx
     ·rw[List.mem_singleton] at hx;subst hx;exact fk
    ·intro e0 x hx
     rcases List.mem_append.1 hx with hx | hx
     ·exact ho.2 e0 x hx
     ·rw[List.mem_singleton] at hx;subst hx;exact oU
  have hA:=YC cls hc a (if b then scope++[(nm,(T.length:Int)-1)] else scope) na (if b then env++[(nm,prev)] else env) st T id site h1 hr' h0 MF;have hR:=j6 cls hc a id site (if b then env++[(nm,prev)] else env) st MF;simp only[tH];generalize aH cls a id site (if b then env++[(nm,prev)] else env) st=x at hA hR;rw[oJ]
  rcases hA with ⟨e0,hy,T',hT',Qq,hP⟩ | ⟨e1,hy⟩
  ·rw[hy,if_neg (by simp),hT']
   have hl1:(T++T').length=T.length+a.cnt:=by simp[Qq]
   have Yb:=cV a;have hB:=UN cls hc nm r bs scope nc env x.1 x.2 (T++T') (id+a.cnt) (site+a.bz) (by rw[hl1];exact h2) hr.more e0 (ho.on (λ_=>h0)) hR.1 (hR.2.1 e0).2 (λ_=>⟨by omega,by rw[hl1];exact hP⟩);generalize tH cls nm r bs (id+a.cnt) (site+a.bz) env x.1 x.2=y at hB;obtain⟨Vt,mi⟩:=hB;refine⟨?_,?_⟩
   ·rcases Vt with ⟨f0,fy,T2,rM,acI,hP2⟩ | ⟨f1,fy⟩
    ·left
     refine⟨f0,fy,T'++T2,by rw[rM];simp,by simp[Qq,acI,ax],?_⟩;intro j t hj
     cases j with
     | zero =>
      simp only[List.getElem?_cons_zero,Option.some.injEq] at hj;subst hj;simp only[az,List.getD_cons_zero];rw[show ((T.length+a.cnt:Nat):Int)-1=((T.length+a.cnt-1:Nat):Int) from by omega,<- List.append_assoc];refine yf ?_;rw[List.getElem?_append_left (by omega)];exact hP
     | succ j =>
      simp only[List.getElem?_cons_succ] at hj;simp only[az,List.getD_cons_succ];have:=hP2 j t hj;rw[hl1] at this;rw[<- List.append_assoc];exact this
    ·exact Or.inr ⟨f1,fy⟩
   ·intro f0 t ht
    rcases List.mem_cons.1 ht with rfl | ht
    ·exact (hR.2.1 e0).2
    ·exact mi f0 t ht
  ·have hne:(gL T na).1.1≠0:=by rw[hy];exact e1
   rw[if_pos hne];have hs:=Gb cls nm r bs (id+a.cnt) (site+a.bz) env x.1 x.2 e1;generalize tH cls nm r bs (id+a.cnt) (site+a.bz) env x.1 x.2=y at hs;refine⟨Or.inr ⟨?_,?_⟩,?_⟩
   ·rw[hs.1];exact e1
   ·rw[hy,hs.1,hs.2]
   ·intro f0;rw[hs.1] at f0;exact absurd f0 e1
end
mutual
def PT.Q3:PT->List (Nat × List UInt8)
 | .num _ _=>[]
 | .name _ _=>[]
 | .node p k _ rg kids=>(if k=.pair then [(p,rg)] else [])++I2 kids
def I2:List PT->List (Nat × List UInt8)
 | []=>[]
 | t::r=>t.Q3++I2 r
end
mutual
theorem Cp:∀ t:PT,t.Q3.length=t.bz
 | .num _ _=>rfl
 | .name _ _=>rfl
 | .node _ k _ _ kids=>by simp only[PT.Q3,PT.bz,List.length_append,Gc kids];split <;> rfl
theorem Gc:∀ ts:List PT,(I2 ts).length=ic ts
 | []=>rfl
 | t::r=>by simp only[I2,ic,List.length_append,Cp t,Gc r]
end
end Go.Proofs.YtpicaknklgccoabGreatDoor
