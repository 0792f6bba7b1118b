import Derived.Test.YtpicaknklgccoabGreatDoorS3
namespace Go.Proofs.YtpicaknklgccoabGreatDoor
open Go.RowKit
theorem Tryz.oV:(Tryz.prog.info? 3).map (fun i=>(i.zero,i.size,i.bytes))=some (some (.int .i64 0),1,8):=by kernel_rfl
theorem Tryz.oY:Tryz.prog.underlying 22=some (.slice 3):=by kernel_rfl
inductive ru | name | region | e | body
 deriving DecidableEq
def ru.wt:ru->Wt
 | .name=>.name
 | .region=>.region
 | .e=>.e
 | .body=>.e
def rz (k:Kw) (ae:Bool):List ru :=
 match k,ae with
 | .aT,_=>[.name,.e,.body]
 | .loop,_=>[.e,.name,.e,.body]
 | .pair,true=>[.region,.e,.e]
 | .new,_=>[.region,.e]
 | .pair,false=>[.e,.e]
 | .add,_=>[.e,.e]
 | .sub,_=>[.e,.e]
 | .less,_=>[.e,.e]
 | .fst,_=>[.e]
 | .snd,_=>[.e]
 | .dQ,_=>[.e,.e,.e]
theorem ni (k:Kw) (ae:Bool) (h:bV k ae≠[]):bV k ae=(rz k ae).map ru.wt++[.close]:=by
 cases k <;> cases ae <;> first | rfl | exact absurd rfl h
def Py:List ru->Bool
 | []=>true
 | .name::is=>!is.contains .name && is.head? != some .body && Py is
 | .region::is=>!is.contains .region && is.head? != some .body && Py is
 | .body::is=>!is.contains .name && Py is
 | .e::is=>Py is
theorem Hz (k:Kw) (ae:Bool):Py (rz k ae)=true:=by cases k <;> cases ae <;> decide
structure FS where
 parts:List Int
 word:List UInt8
 region:Int
def gG (len:Nat) (pE:PS->Int × PS):List ru->FS->PS->FS × PS
 | [],fs,st=>(fs,st)
 | .name::is,fs,st=>gG len pE is { fs with word:=(eY len st.l).word } (st.expect len 4)
 | .region::is,fs,st=>gG len pE is { fs with region:=(eY len st.l).num } (st.expect len 6)
 | .e::is,fs,st=>gG len pE is { fs with parts:=fs.parts++[(pE st).1] } (pE st).2
 | .body::is,fs,st=>gG len pE is { fs with parts:=fs.parts++[(eZ pE fs.word (fs.parts.getLastD (-1)) st).1] } (eZ pE fs.word (fs.parts.getLastD (-1)) st).2
def aY (k:Kw):Nat:=cP (bF (.kw k))
def NR.filled (n:NR) (fs:FS):NR:={ n with word:=fs.word,region:=fs.region,p0:=fs.parts.getD 0 (-1),p1:=fs.parts.getD 1 (-1),p2:=fs.parts.getD 2 (-1) }
theorem tR (ae:Bool) (len:Nat) (pE:PS->Int × PS) (k:Kw) (hk:bV k ae≠[]) (at_ aR:Nat) (num:Int) (st:PS) :
  nX ae len pE ⟨aY k,at_,aR,num,[],0,-1,-1,-1,-1⟩ st =
   (NR.filled ⟨aY k,at_,aR,num,[],0,-1,-1,-1,-1⟩ (gG len pE (rz k ae) ⟨[],[],0⟩ st).1,(gG len pE (rz k ae) ⟨[],[],0⟩ st).2):=by
 cases k <;> cases ae <;> first | rfl | exact absurd rfl hk
def aA:List PT->Nat->List Int
 | [],_=>[]
 | t::r,base=>(((base+t.cnt:Nat):Int) - 1)::aA r (base+t.cnt)
mutual
def opn:PT->Nat->List Int
 | .num _ _,base=>[(base:Int)]
 | .name _ _,base=>[(base:Int)]
 | .node _ _ _ _ kids,base=>((base+az kids:Nat):Int)::mC kids base
def mC:List PT->Nat->List Int
 | [],_=>[]
 | t::r,base=>opn t base++mC r (base+t.cnt)
end
def uT:List ru->List Bool
 | []=>[]
 | .name::is=>uT is
 | .region::is=>uT is
 | .e::is=>false::uT is
 | .body::is=>true::uT is
def cf:Kw->List Bool
 | .aT=>[false,true]
 | .loop=>[false,false,true]
 | .pair=>[false,false]
 | .new=>[false]
 | .add=>[false,false]
 | .sub=>[false,false]
 | .less=>[false,false]
 | .fst=>[false]
 | .snd=>[false]
 | .dQ=>[false,false,false]
theorem RN (k:Kw) (ae:Bool):uT (rz k ae)=cf k:=by cases k <;> cases ae <;> rfl
abbrev Sc:=List (List UInt8 × Int)
mutual
def NA (scope:Sc):PT->Nat->List NR->Prop
 | .num p s,_,ns=>ns=[⟨1,p,p+s.length,aq s,[],0,-1,-1,-1,-1⟩]
 | .name p s,_,ns=>ns=[⟨2,p,p+s.length,0,s,0,bN scope s,-1,-1,-1⟩]
 | .node p k nm rg kids,base,ns=>∃ ks aR,cY scope nm kids (cf k) base ks /\
   ns=ks++[⟨aY k,p,aR,0,nm,aq rg,-1,(aA kids base).getD 0 (-1),(aA kids base).getD 1 (-1),(aA kids base).getD 2 (-1)⟩]
def cY (scope:Sc) (nm:List UInt8):List PT->List Bool->Nat->List NR->Prop
 | [],bs,_,ns=>bs=[]/\ns=[]
 | _::_,[],_,_=>False
 | t::r,b::bs,base,ns=>∃ a c,NA (if b then scope++[(nm,(base:Int) - 1)] else scope) t base a/\cY scope nm r bs (base+t.cnt) c/\ns=a++c
end
mutual
theorem NA.len:∀ {scope:Sc} {t:PT} {base:Nat} {ns:List NR},NA scope t base ns->ns.length=t.cnt
 | _,.num _ _,_,_,h=>by simp only [NA] at h;subst h;rfl
 | _,.name _ _,_,_,h=>by simp only [NA] at h;subst h;rfl
 | _,.node _ _ _ _ kids,_,_,h=>by
  simp only [NA] at h
  obtain ⟨ks,aR,h1,rfl⟩:=h
  have:=cY.len h1
  simp only [List.length_append,List.length_cons,List.length_nil,PT.cnt,this];omega
theorem cY.len:∀ {scope:Sc} {nm:List UInt8} {ts:List PT} {bs:List Bool} {base:Nat} {ns:List NR},cY scope nm ts bs base ns->ns.length=az ts
 | _,_,[],_,_,_,h=>by simp only [cY] at h;simp [h.2,az]
 | _,_,_::_,[],_,_,h=>by simp [cY] at h
 | _,_,t::r,b::bs,_,_,h=>by
  simp only [cY] at h
  obtain ⟨a,c,h1,h2,rfl⟩:=h
  have:=NA.len h1
  have:=cY.len h2
  simp only [List.length_append,az];omega
end
mutual
theorem Hd:∀ (t:PT) (base:Nat),(opn t base).length=t.cnt
 | .num _ _,_=>rfl
 | .name _ _,_=>rfl
 | .node _ _ _ _ kids,base=>by have:=EE kids base;simp only [opn,List.length_cons,PT.cnt,this];omega
theorem EE:∀ (ts:List PT) (base:Nat),(mC ts base).length=az ts
 | [],_=>rfl
 | t::r,base=>by have:=Hd t base;have:=EE r (base+t.cnt);simp only [mC,List.length_append,az];omega
end
theorem cH (t:PT):0 < t.cnt:=by cases t <;> simp [PT.cnt];omega
def MX (ae:Bool) (pE:PS->Int × PS) (m:Nat):Prop:=∀ (l:List Tk) (e:PT) (r:List Tk),PE ae l e r->l.length<=m->∀ st:PS,st.l=l->st.fl=none ->
 ∃ ns,NA st.scope e st.nodes.length ns/\pE st=(((st.nodes.length+e.cnt:Nat):Int) - 1,{ st with l:=r,nodes:=st.nodes++ns,opened:=st.opened++opn e st.nodes.length })
def NoE (ae:Bool) (len:Nat) (pE:PS->Int × PS) (m:Nat):Prop:=∀ l:List Tk,l.length<=m->(¬ ∃ e r,PE ae l e r)->∀ st:PS,st.l=l->st.fl=none ->
 ∃ q,(∀ p,bM ae len l (.e::p)=some q)/\(pE st).2.stuck q
theorem xz {ae:Bool} {pE:PS->Int × PS} {m:Nat} (hY:MX ae pE m) (w:List UInt8) (src:Int) {l:List Tk} {e:PT} {r:List Tk} (h:PE ae l e r) (hm:l.length<=m) (st:PS) (hl:st.l=l) (hf:st.fl=none) :
  ∃ ns,NA (st.scope++[(w,src)]) e st.nodes.length ns/\eZ pE w src st=(((st.nodes.length+e.cnt:Nat):Int) - 1,{ st with l:=r,nodes:=st.nodes++ns,opened:=st.opened++opn e st.nodes.length }):=by
 obtain ⟨ns,h1,h2⟩:=hY l e r h hm { st with scope:=st.scope++[(w,src)] } hl hf
 refine ⟨ns,h1,?_⟩
 unfold eZ
 simp only [h2,List.dropLast_concat]
theorem Hy {ae:Bool} (len:Nat) {pE:PS->Int × PS} {m:Nat} (hY:MX ae pE m):∀ (is:List ru) (l:List Tk) (nm rg:List UInt8) (kids:List PT) (r:List Tk),PW ae (is.map ru.wt++[.close]) l nm rg kids r->Py is=true ->
  l.length<=m->∀ (st:PS) (fs:FS) (I0:List UInt8),st.l=l->st.fl=none->(is.head?=some .body->fs.parts.getLastD (-1)=(st.nodes.length:Int) - 1)->(if is.contains .name then nm else fs.word)=I0 ->
  ∃ t ns,t.c=.cls/\cY st.scope I0 kids (uT is) st.nodes.length ns /\
   gG len pE is fs st=(⟨fs.parts++aA kids st.nodes.length,I0,if is.contains .region then aq rg else fs.region⟩,{ st with l:=t::r,nodes:=st.nodes++ns,opened:=st.opened++mC kids st.nodes.length }):=by
 intro is
 induction is with
 | nil =>
  intro l nm rg kids r h _ hm st fs I0 hl hf _ hw
  simp only [List.map_nil,List.nil_append] at h
  cases h with
  | close hc h1 =>
   cases h1
   refine ⟨_,[],hc,⟨rfl,rfl⟩,?_⟩
   simp only [gG,aA,mC,List.append_nil]
   simp at hw
   rw [<- hl,<- hw];rfl
 | cons i is ih =>
  intro l nm rg kids r h hwf hm st fs I0 hl hf hlast hw
  cases i with
  | name =>
   simp only [List.map_cons,ru.wt,List.cons_append] at h
   simp only [Py,Bool.and_eq_true,Bool.not_eq_true'] at hwf
   obtain ⟨⟨hw1,hw2⟩,hw3⟩:=hwf
   cases h with
   | name hc h1 =>
    rename_i t r1 Z6
    simp only [List.length_cons] at hm
    have hk:(eY len st.l).kind=4:=by rw [hl];exact (mA _).2 hc
    have hex:st.expect len 4={ st with l:=r1 }:=by
     unfold PS.expect;rw [if_neg (by simp [hk])];simp [PS.tail,hl]
    have hword:(eY len st.l).word=t.s:=by rw [hl];simp [eY,gM,ux,hc]
    have hw':(if is.contains .name then Z6 else t.s)=I0:=by
     rw [hw1];simpa using hw
    obtain ⟨t',ns,h2,h3,h4⟩:=ih r1 Z6 rg kids r h1 hw3 (by omega) { st with l:=r1 } { fs with word:=t.s } I0 rfl hf (fun e=>by rw [e] at hw2;simp at hw2) hw'
    refine ⟨t',ns,h2,h3,?_⟩
    simp only [gG]
    rw [hex,hword,h4]
    simp
  | region =>
   simp only [List.map_cons,ru.wt,List.cons_append] at h
   simp only [Py,Bool.and_eq_true,Bool.not_eq_true'] at hwf
   obtain ⟨⟨hw1,hw2⟩,hw3⟩:=hwf
   cases h with
   | region hc h1 =>
    rename_i t r1 rg1
    simp only [List.length_cons] at hm
    have hk:(eY len st.l).kind=6:=by rw [hl];exact (oR _).2 hc
    have hex:st.expect len 6={ st with l:=r1 }:=by
     unfold PS.expect;rw [if_neg (by simp [hk])];simp [PS.tail,hl]
    have pO:(eY len st.l).num=aq t.s:=by rw [hl];simp [eY,gM,Ct,hc]
    have hw':(if is.contains .name then nm else fs.word)=I0:=by simpa using hw
    obtain ⟨t',ns,h2,h3,h4⟩:=ih r1 nm rg1 kids r h1 hw3 (by omega) { st with l:=r1 } { fs with region:=aq t.s } I0 rfl hf (fun e=>by rw [e] at hw2;simp at hw2) hw'
    refine ⟨t',ns,h2,h3,?_⟩
    simp only [gG]
    rw [hex,pO,h4,hw1]
    simp
  | e =>
   simp only [List.map_cons,ru.wt,List.cons_append] at h
   simp only [Py] at hwf
   cases h with
   | e he h1 =>
    rename_i e r1 xy
    have hlt:=he.len
    obtain ⟨QM,eK,gI⟩:=hY l e r1 he hm st hl hf
    have hw':(if is.contains .name then nm else fs.word)=I0:=by simpa using hw
    have hlen:=eK.len
    obtain ⟨t',ns,h2,h3,h4⟩:=ih r1 nm rg xy r h1 hwf (by omega) (pE st).2 { fs with parts:=fs.parts++[(pE st).1] } I0 (by rw [gI]) (by rw [gI];exact hf)
     (fun _=>by rw [gI];simp [hlen]) hw'
    refine ⟨t',QM++ns,h2,?_,?_⟩
    ·rw [gI] at h3
     simp only [uT,cY]
     simp only [List.length_append,hlen] at h3
     exact ⟨QM,ns,eK,h3,rfl⟩
    ·simp only [gG]
     rw [h4,gI]
     simp [aA,mC,hlen]
  | body =>
   simp only [List.map_cons,ru.wt,List.cons_append] at h
   simp only [Py,Bool.and_eq_true,Bool.not_eq_true'] at hwf
   cases h with
   | e he h1 =>
    rename_i e r1 xy
    have hlt:=he.len
    have hw0:fs.word=I0:=by
     have:(ru.body::is).contains .name=false:=by simpa using hwf.1
     rw [this] at hw;simpa using hw
    have hla:=hlast rfl
    obtain ⟨QM,eK,gI⟩:=xz hY fs.word (fs.parts.getLastD (-1)) he hm st hl hf
    have hw':(if is.contains .name then nm else fs.word)=I0:=by rw [hwf.1];simpa using hw0
    have hlen:=eK.len
    obtain ⟨t',ns,h2,h3,h4⟩:=ih r1 nm rg xy r h1 hwf.2 (by omega) (eZ pE fs.word (fs.parts.getLastD (-1)) st).2 { fs with parts:=fs.parts++[(eZ pE fs.word (fs.parts.getLastD (-1)) st).1] } I0 (by rw [gI]) (by rw [gI];exact hf)
     (fun _=>by rw [gI];simp [hlen]) hw'
    refine ⟨t',QM++ns,h2,?_,?_⟩
    ·rw [gI] at h3
     simp only [uT,cY]
     simp only [List.length_append,hlen] at h3
     rw [hw0,hla] at eK
     exact ⟨QM,ns,eK,h3,rfl⟩
    ·simp only [gG]
     rw [h4,gI]
     simp [aA,mC,hlen]
theorem kI {pE:PS->Int × PS} (h:we pE) (len:Nat) {q:Nat}:∀ (is:List ru) (fs:FS) (st:PS),st.stuck q->(gG len pE is fs st).2.stuck q:=by
 intro is
 induction is with
 | nil=>intro fs st hs;exact hs
 | cons i is ih =>
  intro fs st hs
  cases i with
  | name=>exact ih _ _ (dO hs)
  | region=>exact ih _ _ (dO hs)
  | e=>exact ih _ _ (h q st hs)
  | body=>exact ih _ _ (E5 h _ _ hs)
theorem kJ {len k:Nat} {st:PS} (hf:st.fl=none) (hk:(eY len st.l).kind≠k):(st.expect len k).stuck (eY len st.l).at_:=by
 unfold PS.expect;rw [if_pos hk]
 exact kK hf
theorem VO {ae:Bool} {len:Nat} {pE:PS->Int × PS} {m:Nat} (hY:MX ae pE m) (hN:NoE ae len pE m) (hK:we pE):∀ (is:List ru) (l:List Tk),(¬ ∃ nm rg kids r,PW ae (is.map ru.wt++[.close]) l nm rg kids r) ->
  l.length<=m->∀ (st:PS) (fs:FS),st.l=l->st.fl=none->∃ q,(∀ p,bM ae len l (is.map ru.wt++.close::p)=some q)/\((gG len pE is fs st).2.expect len 3).stuck q:=by
 intro is
 induction is with
 | nil =>
  intro l h hm st fs hl hf
  simp only [List.map_nil,List.nil_append,gG] at h ⊢
  cases l with
  | nil=>exact ⟨len,fun p=>rfl,by have:=kJ (len:=len) (k:=3) hf (by rw [hl];simp [eY]);rw [hl] at this;exact this⟩
  | cons t r =>
   by_cases hc:t.c=.cls
   ·exact absurd ⟨_,_,_,_,.close hc .nil⟩ h
   ·refine ⟨t.at_,fun p=>by simp only [bM,if_neg hc],?_⟩
    have:=kJ (len:=len) (k:=3) hf (by rw [hl];exact fun e=>hc ((tB _).1 e))
    rw [hl] at this;exact this
 | cons i is ih =>
  intro l h hm st fs hl hf
  cases i with
  | name =>
   simp only [List.map_cons,ru.wt,List.cons_append] at h ⊢
   simp only [gG]
   cases l with
   | nil =>
    refine ⟨len,fun p=>rfl,?_⟩
    have:=kJ (len:=len) (k:=4) hf (by rw [hl];simp [eY])
    rw [hl] at this
    exact dO (kI hK len is _ _ this)
   | cons t r =>
    by_cases hc:t.c=.yX
    ·have hk:(eY len st.l).kind=4:=by rw [hl];exact (mA _).2 hc
     have hex:st.expect len 4={ st with l:=r }:=by
      unfold PS.expect;rw [if_neg (by simp [hk])];simp [PS.tail,hl]
     rw [hex]
     obtain ⟨q,h1,h2⟩:=ih r (fun ⟨nm,rg,kids,r',hp⟩=>h ⟨_,_,_,_,.name hc hp⟩) (by simp at hm;omega) { st with l:=r } { fs with word:=(eY len st.l).word } rfl hf
     exact ⟨q,fun p=>by simp only [bM,if_pos hc];exact h1 p,h2⟩
    ·refine ⟨t.at_,fun p=>by simp only [bM,if_neg hc],?_⟩
     have:=kJ (len:=len) (k:=4) hf (by rw [hl];exact fun e=>hc ((mA _).1 e))
     rw [hl] at this
     exact dO (kI hK len is _ _ this)
  | region =>
   simp only [List.map_cons,ru.wt,List.cons_append] at h ⊢
   simp only [gG]
   cases l with
   | nil =>
    refine ⟨len,fun p=>rfl,?_⟩
    have:=kJ (len:=len) (k:=6) hf (by rw [hl];simp [eY])
    rw [hl] at this
    exact dO (kI hK len is _ _ this)
   | cons t r =>
    by_cases hc:t.c=.GS
    ·have hk:(eY len st.l).kind=6:=by rw [hl];exact (oR _).2 hc
     have hex:st.expect len 6={ st with l:=r }:=by
      unfold PS.expect;rw [if_neg (by simp [hk])];simp [PS.tail,hl]
     rw [hex]
     obtain ⟨q,h1,h2⟩:=ih r (fun ⟨nm,rg,kids,r',hp⟩=>h ⟨_,_,_,_,.region hc hp⟩) (by simp at hm;omega) { st with l:=r } { fs with region:=(eY len st.l).num } rfl hf
     exact ⟨q,fun p=>by simp only [bM,if_pos hc];exact h1 p,h2⟩
    ·refine ⟨t.at_,fun p=>by simp only [bM,if_neg hc],?_⟩
     have:=kJ (len:=len) (k:=6) hf (by rw [hl];exact fun e=>hc ((oR _).1 e))
     rw [hl] at this
     exact dO (kI hK len is _ _ this)
  | e =>
   simp only [List.map_cons,ru.wt,List.cons_append] at h ⊢
   simp only [gG]
   by_cases he:∃ e r,PE ae l e r
   ·obtain ⟨e,r,he⟩:=he
    obtain ⟨QM,eK,gI⟩:=hY l e r he hm st hl hf
    have hlt:=he.len
    obtain ⟨q,h1,h2⟩:=ih r (fun ⟨nm,rg,kids,r',hp⟩=>h ⟨_,_,_,_,.e he hp⟩) (by omega) (pE st).2 { fs with parts:=fs.parts++[(pE st).1] } (by rw [gI]) (by rw [gI];exact hf)
    exact ⟨q,fun p=>by rw [he.sound];exact h1 p,h2⟩
   ·obtain ⟨q,h1,h2⟩:=hN l hm he st hl hf
    exact ⟨q,fun p=>h1 _,dO (kI hK len is _ _ h2)⟩
  | body =>
   simp only [List.map_cons,ru.wt,List.cons_append] at h ⊢
   simp only [gG]
   by_cases he:∃ e r,PE ae l e r
   ·obtain ⟨e,r,he⟩:=he
    obtain ⟨QM,eK,gI⟩:=xz hY fs.word (fs.parts.getLastD (-1)) he hm st hl hf
    have hlt:=he.len
    obtain ⟨q,h1,h2⟩:=ih r (fun ⟨nm,rg,kids,r',hp⟩=>h ⟨_,_,_,_,.e he hp⟩) (by omega) (eZ pE fs.word (fs.parts.getLastD (-1)) st).2 { fs with parts:=fs.parts++[(eZ pE fs.word (fs.parts.getLastD (-1)) st).1] } (by rw [gI]) (by rw [gI];exact hf)
    exact ⟨q,fun p=>by rw [he.sound];exact h1 p,h2⟩
   ·obtain ⟨q,h1,h2⟩:=hN l hm he { st with scope:=st.scope++[(fs.word,fs.parts.getLastD (-1))] } hl hf
    exact ⟨q,fun p=>h1 _,dO (kI hK len is _ _ h2)⟩
theorem RO (len:Nat) (pB:NR->PS->Int × PS) (st:PS) {t:Tk} {r:List Tk} (hl:st.l=t::r) (hc:t.c=.num) :
  iw len pB st=((st.nodes.length:Int),{ st with l:=r,nodes:=st.nodes++[⟨1,t.at_,t.at_+t.s.length,aq t.s,[],0,-1,-1,-1,-1⟩] }):=by
 simp [iw,hl,eY,gM,hc,bF,Ct,PS.tail,PS.add,je]
theorem OW (len:Nat) (pB:NR->PS->Int × PS) (st:PS) {t:Tk} {r:List Tk} (hl:st.l=t::r) (hc:t.c=.yX) :
  iw len pB st=((st.nodes.length:Int),{ st with l:=r,nodes:=st.nodes++[⟨2,t.at_,t.at_+t.s.length,0,t.s,0,bN st.scope t.s,-1,-1,-1⟩] }):=by
 simp [iw,hl,eY,gM,hc,bF,ux,PS.tail,PS.add,je]
theorem xB (len:Nat) (pB:NR->PS->Int × PS) (st:PS) {t:Tk} {r:List Tk} (hl:st.l=t::r) (hc:t.c=.opn) :
  iw len pB st=pB ⟨0,t.at_,t.at_+t.s.length,0,[],0,-1,-1,-1,-1⟩ { st with l:=r }:=by
 simp [iw,hl,eY,gM,hc,bF,PS.tail,je]
theorem RP (len:Nat) (pB:NR->PS->Int × PS) (st:PS) {t:Tk} {r:List Tk} (hl:st.l=t::r) (h1:t.c≠.num) (h2:t.c≠.yX) (h3:t.c≠.opn) (hf:st.fl=none):(iw len pB st).2.stuck t.at_:=by
 have e1:¬ bF t.c=5:=fun h=>h1 ((I7 _).1 h)
 have e2:¬ bF t.c=4:=fun h=>h2 ((mA _).1 h)
 have e3:¬ bF t.c=2:=fun h=>h3 ((I8 _).1 h)
 unfold iw
 simp only [hl,eY,gM,if_neg e1,if_neg e2,if_neg e3]
 exact kK hf
theorem I1 (len:Nat) (pB:NR->PS->Int × PS) (st:PS) (hl:st.l=[]) (hf:st.fl=none):(iw len pB st).2.stuck len:=by
 unfold iw
 simp only [hl,eY]
 exact kK hf
theorem yN (o X:List Int) (i:Int):(o++[-1]++X).set o.length i=o++i::X:=by
 rw [List.append_assoc,List.set_append_right _ _ (Nat.le_refl _)];simp
theorem ng (c:Cl) (ae:Bool):(cP (bF c)=0\/(cP (bF c)=12/\ae=false))↔tA c ae=[]:=by
 cases c with
 | kw k=>cases k <;> cases ae <;> decide
 | _=>cases ae <;> decide
theorem Ai (k:Kw) (ae:Bool):(rz k ae).head?≠some .body:=by cases k <;> cases ae <;> decide
theorem PW.xA {ae:Bool}:∀ {ws:List Wt} {l:List Tk} {nm rg:List UInt8} {kids:List PT} {r:List Tk},PW ae ws l nm rg kids r->Wt.name ∉ ws->nm=[]
 | _,_,_,_,_,_,.nil,_=>rfl
 | _,_,_,_,_,_,.close _ h1,hn=>PW.xA h1 (fun h=>hn (List.mem_cons_of_mem _ h))
 | _,_,_,_,_,_,.name _ _,hn=>absurd List.mem_cons_self hn
 | _,_,_,_,_,_,.region _ h1,hn=>PW.xA h1 (fun h=>hn (List.mem_cons_of_mem _ h))
 | _,_,_,_,_,_,.e _ h1,hn=>PW.xA h1 (fun h=>hn (List.mem_cons_of_mem _ h))
theorem PW.tj {ae:Bool}:∀ {ws:List Wt} {l:List Tk} {nm rg:List UInt8} {kids:List PT} {r:List Tk},PW ae ws l nm rg kids r->Wt.region ∉ ws->rg=[]
 | _,_,_,_,_,_,.nil,_=>rfl
 | _,_,_,_,_,_,.close _ h1,hn=>PW.tj h1 (fun h=>hn (List.mem_cons_of_mem _ h))
 | _,_,_,_,_,_,.region _ _,hn=>absurd List.mem_cons_self hn
 | _,_,_,_,_,_,.name _ h1,hn=>PW.tj h1 (fun h=>hn (List.mem_cons_of_mem _ h))
 | _,_,_,_,_,_,.e _ h1,hn=>PW.tj h1 (fun h=>hn (List.mem_cons_of_mem _ h))
theorem oI (ae:Bool) (len:Nat):∀ n:Nat,MX ae (fe ae len n) n/\NoE ae len (fe ae len n) n:=by
 intro n
 induction n with
 | zero =>
  constructor
  ·intro l e r h hm
   obtain ⟨t,r',he,_⟩:=h.suffix
   rw [he] at hm;simp at hm
  ·intro l hm _ st hl hf
   have QW:l=[]:=List.length_eq_zero_iff.1 (by omega)
   subst QW
   refine ⟨len,fun p=>rfl,?_⟩
   unfold fe iy
   exact I1 len _ { st with opened:=st.opened++[-1] } hl hf
 | succ m ih =>
  constructor
  ·intro l e r h hm st hl hf
   cases h with
   | num hc =>
    rename_i t
    refine ⟨_,rfl,?_⟩
    unfold fe iy
    rw [RO len _ { st with opened:=st.opened++[-1] } hl hc]
    have:=yN st.opened [] (st.nodes.length:Int)
    simp only [List.append_nil] at this
    simp only [this,opn,PT.cnt]
    congr 1
    omega
   | name hc =>
    rename_i t
    refine ⟨_,rfl,?_⟩
    unfold fe iy
    rw [OW len _ { st with opened:=st.opened++[-1] } hl hc]
    have:=yN st.opened [] (st.nodes.length:Int)
    simp only [List.append_nil] at this
    simp only [this,opn,PT.cnt]
    congr 1
    omega
   | node hc hk hw h4 =>
    rename_i t u k r0 nm rg kids
    have Fj:¬ (cP (bF u.c)=0\/(cP (bF u.c)=12/\ae=false)):=by
     rw [ng,hk];exact hw
    rw [ni k ae hw] at h4
    simp only [List.length_cons] at hm
    obtain ⟨c,ns,h1,h2,h3⟩:=Hy len ih.1 (rz k ae) r0 nm rg kids r h4 (Hz k ae) (by omega)
     { st with opened:=st.opened++[-1],l:=r0 } ⟨[],[],0⟩ nm rfl hf (fun e=>absurd e (Ai k ae)) (by
      split
      ·rfl
      ·rename_i hn
       have:Wt.name ∉ (rz k ae).map ru.wt++[.close]:=by
        intro hh
        rcases List.mem_append.1 hh with hh | hh
        ·obtain ⟨i,hi,e⟩:=List.mem_map.1 hh
         cases i with
         | name=>exact hn (by simpa using hi)
         | _=>cases e
        ·simp at hh
       exact (PW.xA h4 this).symm)
    rw [RN] at h2
    have hlen:=h2.len
    have hrg:(if (rz k ae).contains .region then aq rg else 0)=aq rg:=by
     split
     ·rfl
     ·rename_i hn
      have:Wt.region ∉ (rz k ae).map ru.wt++[.close]:=by
       intro hh
       rcases List.mem_append.1 hh with hh | hh
       ·obtain ⟨i,hi,e⟩:=List.mem_map.1 hh
        cases i with
        | region=>exact hn (by simpa using hi)
        | _=>cases e
       ·simp at hh
      rw [PW.tj h4 this];rfl
    rw [hrg] at h3
    refine ⟨ns++[⟨aY k,t.at_,c.at_+c.s.length,0,nm,aq rg,-1,(aA kids st.nodes.length).getD 0 (-1),(aA kids st.nodes.length).getD 1 (-1),(aA kids st.nodes.length).getD 2 (-1)⟩],⟨ns,_,h2,rfl⟩,?_⟩
    unfold fe iy
    rw [xB len _ { st with opened:=st.opened++[-1] } hl hc]
    unfold gF
    have htk:eY len (u::r0)=gM u:=rfl
    simp only [htk]
    rw [if_neg (by simpa [gM] using Fj)]
    have hform:cP (gM u).kind=aY k:=by simp [gM,hk,aY]
    rw [hform,tR ae len _ k hw]
    simp only [PS.tail,List.tail_cons]
    rw [h3]
    have hkc:(eY len (c::r)).kind=3:=(tB _).2 h1
    simp only [PS.expect,hkc]
    rw [if_neg (by simp)]
    simp only [PS.tail,List.tail_cons,PS.add,NR.filled,List.nil_append,eY,gM,opn,PT.cnt]
    have:=yN st.opened (mC kids st.nodes.length) ((st.nodes++ns).length:Int)
    rw [this]
    simp only [List.length_append,hlen,List.append_assoc]
    congr 1
    omega
  ·intro l hm hn st hl hf
   cases l with
   | nil =>
    refine ⟨len,fun p=>rfl,?_⟩
    unfold fe iy
    exact I1 len _ { st with opened:=st.opened++[-1] } hl hf
   | cons t r =>
    by_cases h1:t.c=.num
    ·exact absurd ⟨_,_,.num h1⟩ hn
    by_cases h2:t.c=.yX
    ·exact absurd ⟨_,_,.name h2⟩ hn
    by_cases h3:t.c=.opn
    ·simp only [List.length_cons] at hm
     unfold fe iy
     rw [xB len _ { st with opened:=st.opened++[-1] } hl h3]
     unfold gF
     cases r with
     | nil =>
      refine ⟨len,fun p=>by simp [bM,h3],?_⟩
      simp only [eY,cP]
      exact kK hf
     | cons u r0 =>
      have htk:eY len (u::r0)=gM u:=rfl
      simp only [htk]
      by_cases hw:tA u.c ae=[]
      ·have:=(ng u.c ae).2 hw
       refine ⟨u.at_,fun p=>by simp [bM,h3,hw],?_⟩
       rw [if_pos (by simpa [gM] using this)]
       exact kK hf
      ·have Fj:¬ (cP (bF u.c)=0\/(cP (bF u.c)=12/\ae=false)):=fun h=>hw ((ng u.c ae).1 h)
       rw [if_neg (by simpa [gM] using Fj)]
       cases hu:u.c with
       | kw k =>
        rw [hu] at hw
        have hw':bV k ae≠[]:=hw
        have hform:cP (gM u).kind=aY k:=by simp [gM,hu,aY]
        rw [hform,tR ae len _ k hw']
        simp only [PS.tail,List.tail_cons]
        simp only [List.length_cons] at hm
        obtain ⟨q,hq1,O9⟩:=VO (len:=len) ih.1 ih.2 (E4 ae len m) (rz k ae) r0 (fun ⟨nm,rg,kids,r',hp⟩=>hn ⟨_,_,.node h3 hu hw' (by rw [ni k ae hw'];exact hp)⟩) (by omega)
         { st with opened:=st.opened++[-1],l:=r0 } ⟨[],[],0⟩ rfl hf
        refine ⟨q,fun p=>?_,O9⟩
        have:=hq1 p
        simp only [bM,h3,hu,tA]
        rw [if_neg hw',ni k ae hw']
        simpa using this
       | _=>rw [hu] at hw;exact absurd rfl hw
    ·refine ⟨t.at_,fun p=>?_,?_⟩
     ·simp only [bM]
     ·unfold fe iy
      exact RP len _ { st with opened:=st.opened++[-1] } hl h1 h2 h3 hf
def ps0 (l:List Tk):PS:=⟨l,none,[],[],[]⟩
def jH (ae:Bool) (len:Nat) (l:List Tk):PS:=(fe ae len l.length (ps0 l)).2.expect len 0
theorem ot {ae:Bool} {len:Nat} {l:List Tk} {e:PT} (h:PE ae l e []) :
  ∃ ns,NA [] e 0 ns/\jH ae len l=⟨[],none,[],ns,opn e 0⟩:=by
 obtain ⟨ns,h1,h2⟩:=(oI ae len l.length).1 l e [] h (Nat.le_refl _) (ps0 l) rfl rfl
 refine ⟨ns,h1,?_⟩
 unfold jH
 rw [h2]
 simp [PS.expect,eY,PS.tail,ps0]
def ai (T:List Ty) (i:Int):Ty:=if 0<=i then (T[i.toNat]?).getD .n else .n
def cq (T:List Ty) (n:NR):Ty × Nat :=
 if n.form=2 then (if n.source=-1 then (.n,4) else (ai T n.source,0))
 else if n.form=12 then (ai T n.p0,0)
 else if n.form=3 then (ai T n.p1,0)
 else if n.form=4 then (if 63 < (Ty.p 0 (ai T n.p0) (ai T n.p1)).size then (.n,6) else (.p 0 (ai T n.p0) (ai T n.p1),0))
 else if n.form=5 then (match ai T n.p0 with
  | .n=>(.n,5)
  | .p _ x _=>(x,0))
 else if n.form=6 then (match ai T n.p0 with
  | .n=>(.n,5)
  | .p _ _ x=>(x,0))
 else if n.form=7\/n.form=11 then (ai T n.p1,if ai T n.p0=.n/\ai T n.p1=ai T n.p2 then 0 else 5)
 else if n.form=8\/n.form=9\/n.form=10 then (.n,if ai T n.p0=.n/\ai T n.p1=.n then 0 else 5)
 else (.n,0)
def gp:List Ty->List NR->(Nat × Nat) × List Ty
 | T,[]=>((0,0),T)
 | T,n::r=>if (cq T n).2≠0 then (((cq T n).2,n.at_),T) else gp (T++[(cq T n).1]) r
theorem nE:∀ (a b:List NR) (T:List Ty),gp T (a++b)=if (gp T a).1.1≠0 then gp T a else gp (gp T a).2 b
 | [],b,T=>by simp [gp]
 | n::r,b,T=>by
  simp only [List.cons_append,gp]
  by_cases h:(cq T n).2≠0
  ·simp [h]
  ·simp only [if_neg h];exact nE r b _
theorem KP (t:Ty):t.bare.size=t.size:=by
 induction t with
 | n=>rfl
 | p r a b aM bH=>simp [Ty.bare,Ty.size,aM,bH]
theorem rQ (t:Ty):t.bare=.n↔t=.n:=by cases t <;> simp [Ty.bare]
def dA (T:List Ty):aQ->Sc->Prop
 | [],[]=>True
 | x::e,y::s=>x.1=y.1/\0<=y.2/\T[y.2.toNat]?=some x.2.bare/\dA T e s
 | _,_=>False
theorem dA.app {T:List Ty}:∀ {e e':aQ} {s s':Sc},dA T e s->dA T e' s'->dA T (e++e') (s++s')
 | [],_,[],_,_,h=>h
 | _::_,_,_::_,_,h,h'=>⟨h.1,h.2.1,h.2.2.1,dA.app h.2.2.2 h'⟩
 | [],_,_::_,_,h,_=>h.elim
 | _::_,_,[],_,h,_=>h.elim
theorem dA.rev {T:List Ty}:∀ {e:aQ} {s:Sc},dA T e s->dA T e.reverse s.reverse
 | [],[],_=>trivial
 | _::_,_::_,h=>by
  rw [List.reverse_cons,List.reverse_cons]
  exact dA.app (dA.rev h.2.2.2) ⟨h.1,h.2.1,h.2.2.1,trivial⟩
 | [],_::_,h=>h.elim
 | _::_,[],h=>h.elim
theorem dA.more {T T':List Ty}:∀ {e:aQ} {s:Sc},dA T e s->dA (T++T') e s
 | [],[],_=>trivial
 | _::_,_::_,h=>⟨h.1,h.2.1,by
   have h3:=h.2.2.1
   rw [List.getElem?_append_left (List.getElem?_eq_some_iff.1 h3).1];exact h3,dA.more h.2.2.2⟩
 | [],_::_,h=>h.elim
 | _::_,[],h=>h.elim
theorem dA.find {T:List Ty} (w:List UInt8):∀ {e:aQ} {s:Sc},dA T e s ->
  (e.find? (fun x=>x.1 == w)=none/\s.find? (fun x=>x.1 == w)=none)\/(∃ x y,e.find? (fun x=>x.1 == w)=some x/\s.find? (fun x=>x.1 == w)=some y/\0<=y.2/\T[y.2.toNat]?=some x.2.bare)
 | [],[],_=>Or.inl ⟨rfl,rfl⟩
 | x::_,y::_,h=>by
  rw [List.find?_cons,List.find?_cons,<- h.1]
  by_cases hw:(x.1 == w)=true
  ·rw [hw];exact Or.inr ⟨x,y,rfl,rfl,h.2.1,h.2.2.1⟩
  ·have hw':(x.1 == w)=false:=by simpa using hw
   rw [hw'];exact dA.find w h.2.2.2
 | [],_::_,h=>h.elim
 | _::_,[],h=>h.elim
theorem dA.look {T:List Ty} {e:aQ} {s:Sc} (h:dA T e s) (w:List UInt8) :
  (look e w=none/\bN s w=-1)\/(∃ t,look e w=some t/\bN s w≠-1/\ai T (bN s w)=t.bare):=by
 rcases h.rev.find w with ⟨h1,h2⟩ | ⟨x,y,h1,h2,h3,h4⟩
 ·left;unfold Go.Proofs.YtpicaknklgccoabGreatDoor.look bN;rw [h1,h2];exact ⟨rfl,rfl⟩
 ·right
  refine ⟨x.2,?_,?_,?_⟩
  ·unfold Go.Proofs.YtpicaknklgccoabGreatDoor.look;rw [h1];rfl
  ·unfold bN;rw [h2];simp only;omega
  ·unfold bN ai;rw [h2];simp only;rw [if_pos h3,h4];rfl
theorem KQ (st:dM) (e p:Nat) (h:st.e≠0):cZ st e p=st:=by unfold cZ;rw [if_neg h]
theorem mN (id p:Nat) (x:Ty × dM) (h:x.2.e≠0):(fin id p x).2.e=x.2.e/\(fin id p x).2.at_=x.2.at_:=by
 unfold fin;simp only;rw [if_neg (fun hh=>h hh.1)];exact ⟨rfl,rfl⟩
mutual
theorem di (cls:List Nat):∀ (t:PT) (id site:Nat) (env:aQ) (st:dM),st.e≠0->(aD cls t id site env st).2.e=st.e/\(aD cls t id site env st).2.at_=st.at_
 | .num p s,id,site,env,st,h=>by simp only [aD];exact mN _ _ _ h
 | .name p s,id,site,env,st,h=>by
  simp only [aD]
  split
  ·exact mN _ _ _ h
  ·rw [KQ _ _ _ h];exact mN _ _ _ h
 | .node p k nm rg kids,id,site,env,st,h=>by
  simp only [aD]
  split
  ·have:=GM cls nm kids (id+1) site env st h
   have h2:=mN id p (dH cls nm kids (id+1) site env st) (by rw [this.1];exact h)
   exact ⟨h2.1.trans this.1,h2.2.trans this.2⟩
  ·have hx:(if k=.loop then aW cls nm kids (id+1) site env st else bh cls kids (id+1) (site+if k=.pair then 1 else 0) env st).2.e=st.e/\(if k=.loop then aW cls nm kids (id+1) site env st else bh cls kids (id+1) (site+if k=.pair then 1 else 0) env st).2.at_=st.at_:=by
    by_cases hk:k=.loop
    ·simp only [if_pos hk];exact EG cls nm kids _ _ env st h
    ·simp only [if_neg hk];exact om cls kids _ _ env st h
   generalize (if k=.loop then aW cls nm kids (id+1) site env st else bh cls kids (id+1) (site+if k=.pair then 1 else 0) env st)=x at hx
   have hne:x.2.e≠0:=by rw [hx.1];exact h
   rw [if_pos hne]
   have h2:=mN id p (Ty.n,x.2) hne
   exact ⟨h2.1.trans hx.1,h2.2.trans hx.2⟩
theorem om (cls:List Nat):∀ (ts:List PT) (id site:Nat) (env:aQ) (st:dM),st.e≠0->(bh cls ts id site env st).2.e=st.e/\(bh cls ts id site env st).2.at_=st.at_
 | [],_,_,_,st,_=>by simp [bh]
 | a::r,id,site,env,st,h=>by
  simp only [bh]
  have h1:=di cls a id site env st h
  have h2:=om cls r (id+a.cnt) (site+a.bK) env (aD cls a id site env st).2 (by rw [h1.1];exact h)
  exact ⟨h2.1.trans h1.1,h2.2.trans h1.2⟩
theorem GM (cls:List Nat) (nm:List UInt8):∀ (ts:List PT) (id site:Nat) (env:aQ) (st:dM),st.e≠0->(dH cls nm ts id site env st).2.e=st.e/\(dH cls nm ts id site env st).2.at_=st.at_
 | [a,b],id,site,env,st,h=>by
  simp only [dH]
  have h1:=di cls a id site env st h
  have h2:=di cls b (id+a.cnt) (site+a.bK) (env++[(nm,(aD cls a id site env st).1)]) (aD cls a id site env st).2 (by rw [h1.1];exact h)
  exact ⟨h2.1.trans h1.1,h2.2.trans h1.2⟩
 | [],_,_,_,st,_=>by simp [dH]
 | [_],_,_,_,st,_=>by simp [dH]
 | _::_::_::_,_,_,_,st,_=>by simp [dH]
theorem EG (cls:List Nat) (nm:List UInt8):∀ (ts:List PT) (id site:Nat) (env:aQ) (st:dM),st.e≠0->(aW cls nm ts id site env st).2.e=st.e/\(aW cls nm ts id site env st).2.at_=st.at_
 | [a,b,c],id,site,env,st,h=>by
  simp only [aW]
  have h1:=di cls a id site env st h
  have h2:=di cls b (id+a.cnt) (site+a.bK) env (aD cls a id site env st).2 (by rw [h1.1];exact h)
  have h3:=di cls c (id+a.cnt+b.cnt) (site+a.bK+b.bK) (env++[(nm,(aD cls b (id+a.cnt) (site+a.bK) env (aD cls a id site env st).2).1)]) (aD cls b (id+a.cnt) (site+a.bK) env (aD cls a id site env st).2).2 (by rw [h2.1,h1.1];exact h)
  exact ⟨h3.1.trans (h2.1.trans h1.1),h3.2.trans (h2.2.trans h1.2)⟩
 | [],_,_,_,st,_=>by simp [aW]
 | [_],_,_,_,st,_=>by simp [aW]
 | [_,_],_,_,_,st,_=>by simp [aW]
 | _::_::_::_::_,_,_,_,st,_=>by simp [aW]
end
def nC (cls:List Nat) (nm:List UInt8):List PT->List Bool->Nat->Nat->aQ->Ty->dM->List Ty × dM
 | a::r,b::bs,id,site,env,prev,st =>
  let x:=aD cls a id site (if b then env++[(nm,prev)] else env) st
  let y:=nC cls nm r bs (id+a.cnt) (site+a.bK) env x.1 x.2
  (x.1::y.1,y.2)
 | _,_,_,_,_,_,st=>([],st)
theorem EH (cls:List Nat) (nm:List UInt8):∀ (ts:List PT) (bs:List Bool) (id site:Nat) (env:aQ) (prev:Ty) (st:dM),bs.length=ts.length->(∀ b∈bs,b=false)->nC cls nm ts bs id site env prev st=bh cls ts id site env st
 | [],[],_,_,_,_,_,_,_=>by simp [nC,bh]
 | a::r,b::bs,id,site,env,prev,st,h,hb=>by
  have hb0:b=false:=hb b List.mem_cons_self
  subst hb0
  simp only [nC,bh,Bool.false_eq_true,if_false]
  rw [EH cls nm r bs _ _ _ _ _ (by simpa using h) (fun b hb'=>hb b (List.mem_cons_of_mem _ hb'))]
 | [],_::_,_,_,_,_,_,h,_=>by simp at h
 | _::_,[],_,_,_,_,_,h,_=>by simp at h
theorem BP (cls:List Nat) (nm:List UInt8):∀ (ts:List PT) (bs:List Bool) (id site:Nat) (env:aQ) (prev:Ty) (st:dM),bs.length=ts.length->(nC cls nm ts bs id site env prev st).1.length=bs.length
 | [],[],_,_,_,_,_,_=>by simp [nC]
 | a::r,b::bs,id,site,env,prev,st,h=>by
  simp only [nC,List.length_cons]
  rw [BP cls nm r bs _ _ _ _ _ (by simpa using h)]
 | [],_::_,_,_,_,_,_,h=>by simp at h
 | _::_,[],_,_,_,_,_,h=>by simp at h
theorem yt (cls:List Nat) (nm:List UInt8):∀ (ts:List PT) (bs:List Bool) (id site:Nat) (env:aQ) (prev:Ty) (st:dM),st.e≠0->(nC cls nm ts bs id site env prev st).2.e=st.e/\(nC cls nm ts bs id site env prev st).2.at_=st.at_
 | a::r,b::bs,id,site,env,prev,st,h=>by
  simp only [nC]
  have h1:=di cls a id site (if b then env++[(nm,prev)] else env) st h
  have h2:=yt cls nm r bs (id+a.cnt) (site+a.bK) env (aD cls a id site (if b then env++[(nm,prev)] else env) st).1 (aD cls a id site (if b then env++[(nm,prev)] else env) st).2 (by rw [h1.1];exact h)
  exact ⟨h2.1.trans h1.1,h2.2.trans h1.2⟩
 | [],_,_,_,_,_,_,_=>by simp [nC]
 | _::_,[],_,_,_,_,_,_=>by simp [nC]
def Agree (T:List Ty) (n:Nat) (e at_:Nat) (y:(Nat × Nat) × List Ty) (P:List Ty->Prop):Prop :=
 (e=0/\y.1=(0,0)/\∃ T',y.2=T++T'/\T'.length=n/\P (T++T'))\/(e≠0/\y.1=(e,at_))
theorem rC {T:List Ty} {i:Nat} {t:Ty} (h:T[i]?=some t):ai T (i:Int)=t:=by
 unfold ai;rw [if_pos (by omega)];simp [h]
theorem lC (id p:Nat) (x:Ty × dM) (h:x.1.size<=63):(fin id p x).1=x.1/\(fin id p x).2.e=x.2.e/\(fin id p x).2.at_=x.2.at_:=by
 have hn:¬ (x.2.e=0/\63 < x.1.size):=by omega
 simp only [fin,if_neg hn,and_self]
theorem OX (id p:Nat) (x:Ty × dM) (h0:x.2.e=0) (h:63 < x.1.size):(fin id p x).2.e=6/\(fin id p x).2.at_=p:=by
 unfold fin cZ;simp only;rw [if_pos ⟨h0,h⟩,if_pos h0];exact ⟨rfl,rfl⟩
def aP (cls:List Nat) (k:Kw) (p site:Nat) (ks:List Ty) (st:dM):Ty × dM :=
 if k=.aT then (ks.getD 1 .n,st) else bD cls k p site ks st
theorem abq (st:dM) (p id:Nat) (h:st.e=0):(fin id p (Ty.n,cZ st 5 p)).2.e=5/\(fin id p (Ty.n,cZ st 5 p)).2.at_=p:=by
 have h1:(cZ st 5 p).e=5/\(cZ st 5 p).at_=p:=by unfold cZ;rw [if_pos h];exact ⟨rfl,rfl⟩
 have:=lC id p (Ty.n,cZ st 5 p) (by simp [Ty.size])
 exact ⟨this.2.1.trans h1.1,this.2.2.trans h1.2⟩
theorem KR (cls:List Nat) (k:Kw) (id p site:Nat) (ks:List Ty) (st:dM) (T:List Ty) (aR:Nat) (nm:List UInt8) (rg:Int) (p0 p1 p2:Int) (hl:ks.length=(cf k).length) (h0:st.e=0) (hs:∀ t∈ks,t.size<=63)
  (k0:∀ t,ks[0]?=some t->ai T p0=t.bare) (k1:∀ t,ks[1]?=some t->ai T p1=t.bare) (k2:∀ t,ks[2]?=some t->ai T p2=t.bare) :
  ((fin id p (aP cls k p site ks st)).2.e=0/\cq T ⟨aY k,p,aR,0,nm,rg,-1,p0,p1,p2⟩=((fin id p (aP cls k p site ks st)).1.bare,0)) \/
  ((fin id p (aP cls k p site ks st)).2.e≠0/\(cq T ⟨aY k,p,aR,0,nm,rg,-1,p0,p1,p2⟩).2=(fin id p (aP cls k p site ks st)).2.e/\(fin id p (aP cls k p site ks st)).2.at_=p):=by
 have small:∀ (t:Ty) (f:NR),t.size<=63->aP cls k p site ks st=(t,st)->cq T f=(t.bare,0)->((fin id p (aP cls k p site ks st)).2.e=0/\cq T f=((fin id p (aP cls k p site ks st)).1.bare,0))\/((fin id p (aP cls k p site ks st)).2.e≠0/\(cq T f).2=(fin id p (aP cls k p site ks st)).2.e/\(fin id p (aP cls k p site ks st)).2.at_=p):=by
  intro t f ht he hf
  rw [he]
  have:=lC id p (t,st) ht
  exact Or.inl ⟨this.2.1.trans h0,by rw [this.1];exact hf⟩
 have bad:∀ (f:NR),aP cls k p site ks st=(.n,cZ st 5 p)->(cq T f).2=5->((fin id p (aP cls k p site ks st)).2.e=0/\cq T f=((fin id p (aP cls k p site ks st)).1.bare,0))\/((fin id p (aP cls k p site ks st)).2.e≠0/\(cq T f).2=(fin id p (aP cls k p site ks st)).2.e/\(fin id p (aP cls k p site ks st)).2.at_=p):=by
  intro f he hf
  rw [he]
  have:=abq st p id h0
  exact Or.inr ⟨by rw [this.1];decide,by rw [this.1];exact hf,this.2⟩
 match k,ks,hl with
 | .aT,[a,b],_ =>
  have e1:=k1 b rfl
  exact small b _ (hs b (by simp)) (by simp [aP]) (by simp [cq,aY,bF,cP,e1])
 | .new,[a],_ =>
  have e0:=k0 a rfl
  exact small a _ (hs a (by simp)) (by simp [aP,bD]) (by simp [cq,aY,bF,cP,e0])
 | .pair,[a,b],_ =>
  have e0:=k0 a rfl
  have e1:=k1 b rfl
  have he:aP cls .pair p site [a,b] st=(.p (cls.getD site 0) a b,st):=by simp [aP,bD]
  generalize cls.getD site 0=g at he
  have hsz:(Ty.p 0 a.bare b.bare).size=(Ty.p g a b).size:=by simp [Ty.size,KP]
  by_cases OY:63 < (Ty.p g a b).size
  ·right
   rw [he]
   have:=OX id p (.p g a b,st) h0 OY
   refine ⟨by rw [this.1];decide,?_,this.2⟩
   rw [this.1]
   simp only [cq,aY,bF,cP,e0,e1,hsz]
   simp [OY]
  ·exact small _ _ (by omega) he (by simp only [cq,aY,bF,cP,e0,e1,hsz];simp [OY,Ty.bare])
 | .fst,[a],_ =>
  have e0:=k0 a rfl
  cases a with
  | n=>exact bad _ (by simp [aP,bD]) (by simp only [cq,aY,bF,cP,e0];simp [Ty.bare])
  | p r x y =>
   have hsx:x.size<=63:=by have:=hs (.p r x y) (by simp);simp only [Ty.size] at this;omega
   exact small x _ hsx (by simp [aP,bD]) (by simp only [cq,aY,bF,cP,e0];simp [Ty.bare])
 | .snd,[a],_ =>
  have e0:=k0 a rfl
  cases a with
  | n=>exact bad _ (by simp [aP,bD]) (by simp only [cq,aY,bF,cP,e0];simp [Ty.bare])
  | p r x y =>
   have hsx:y.size<=63:=by have:=hs (.p r x y) (by simp);simp only [Ty.size] at this;omega
   exact small y _ hsx (by simp [aP,bD]) (by simp only [cq,aY,bF,cP,e0];simp [Ty.bare])
 | .dQ,[a,b,c],_ =>
  have e0:=k0 a rfl
  have e1:=k1 b rfl
  have e2:=k2 c rfl
  by_cases hh:a=.n/\b.bare=c.bare
  ·exact small b _ (hs b (by simp)) (by simp [aP,bD,hh]) (by simp only [cq,aY,bF,cP,e0,e1,e2];simp [rQ,hh])
  ·exact bad _ (by simp only [aP,bD];simp [hh]) (by simp only [cq,aY,bF,cP,e0,e1,e2];simp only [rQ];simp [hh])
 | .loop,[a,b,c],_ =>
  have e0:=k0 a rfl
  have e1:=k1 b rfl
  have e2:=k2 c rfl
  by_cases hh:a=.n/\b.bare=c.bare
  ·exact small b _ (hs b (by simp)) (by simp [aP,bD,hh]) (by simp only [cq,aY,bF,cP,e0,e1,e2];simp [rQ,hh])
  ·exact bad _ (by simp only [aP,bD];simp [hh]) (by simp only [cq,aY,bF,cP,e0,e1,e2];simp only [rQ];simp [hh])
 | .add,[a,b],_ =>
  have e0:=k0 a rfl
  have e1:=k1 b rfl
  by_cases hh:a=.n/\b=.n
  ·exact small .n _ (by simp [Ty.size]) (by simp [aP,bD,hh]) (by simp only [cq,aY,bF,cP,e0,e1];simp [hh,Ty.bare])
  ·exact bad _ (by simp only [aP,bD];simp [hh]) (by simp only [cq,aY,bF,cP,e0,e1];simp only [rQ];simp [hh])
 | .sub,[a,b],_ =>
  have e0:=k0 a rfl
  have e1:=k1 b rfl
  by_cases hh:a=.n/\b=.n
  ·exact small .n _ (by simp [Ty.size]) (by simp [aP,bD,hh]) (by simp only [cq,aY,bF,cP,e0,e1];simp [hh,Ty.bare])
  ·exact bad _ (by simp only [aP,bD];simp [hh]) (by simp only [cq,aY,bF,cP,e0,e1];simp only [rQ];simp [hh])
 | .less,[a,b],_ =>
  have e0:=k0 a rfl
  have e1:=k1 b rfl
  by_cases hh:a=.n/\b=.n
  ·exact small .n _ (by simp [Ty.size]) (by simp [aP,bD,hh]) (by simp only [cq,aY,bF,cP,e0,e1];simp [hh,Ty.bare])
  ·exact bad _ (by simp only [aP,bD];simp [hh]) (by simp only [cq,aY,bF,cP,e0,e1];simp only [rQ];simp [hh])
theorem cY.Vz {scope:Sc} {nm:List UInt8}:∀ {ts:List PT} {bs:List Bool} {base:Nat} {ns:List NR},cY scope nm ts bs base ns->bs.length=ts.length
 | [],_,_,_,h=>by simp only [cY] at h;simp [h.1]
 | _::_,[],_,_,h=>by simp [cY] at h
 | t::r,b::bs,_,_,h=>by
  simp only [cY] at h
  obtain ⟨a,c,h1,h2,rfl⟩:=h
  simp [cY.Vz h2]
theorem Ee (cls:List Nat) (p:Nat) (k:Kw) (nm rg:List UInt8) (kids:List PT) (id site:Nat) (env:aQ) (prev:Ty) (st:dM) (hl:(cf k).length=kids.length) :
  aD cls (.node p k nm rg kids) id site env st=fin id p (
   if (nC cls nm kids (cf k) (id+1) (site+if k=.pair then 1 else 0) env prev st).2.e≠0/\k≠.aT then (.n,(nC cls nm kids (cf k) (id+1) (site+if k=.pair then 1 else 0) env prev st).2)
   else aP cls k p site (nC cls nm kids (cf k) (id+1) (site+if k=.pair then 1 else 0) env prev st).1 (nC cls nm kids (cf k) (id+1) (site+if k=.pair then 1 else 0) env prev st).2):=by
 have hk:∀ bs,cf k=bs->(∀ b∈bs,b=false)->nC cls nm kids (cf k) (id+1) (site+if k=.pair then 1 else 0) env prev st=bh cls kids (id+1) (site+if k=.pair then 1 else 0) env st:=by
  intro bs hb h
  exact EH cls nm kids (cf k) _ _ env prev st hl (by rw [hb];exact h)
 by_cases h1:k=.aT
 ·subst h1
  match kids,hl with
  | [a,b],_=>simp [aD,dH,nC,cf,aP]
 by_cases h2:k=.loop
 ·subst h2
  match kids,hl with
  | [a,b,c],_=>simp [aD,aW,nC,cf,aP]
 have h3:∀ b∈cf k,b=false:=by
  revert h1 h2;cases k <;> simp [cf]
 rw [hk _ rfl h3]
 simp only [aD,if_neg h1,if_neg h2,aP]
 simp [h1]
mutual
theorem Xo (cls:List Nat) (hc:∀ x∈cls,x < 1000):∀ (t:PT) (scope:Sc) (ns:List NR) (env:aQ) (st:dM) (T:List Ty) (id site:Nat),NA scope t T.length ns->dA T env scope->st.e=0->j3 env st ->
  Agree T t.cnt (aD cls t id site env st).2.e (aD cls t id site env st).2.at_ (gp T ns) (fun T1=>T1[T.length+t.cnt - 1]?=some (aD cls t id site env st).1.bare)
 | .num p s,scope,ns,env,st,T,id,site,hn,_,h0,_=>by
  simp only [NA] at hn
  subst hn
  simp only [aD]
  have hf:=lC id p (Ty.n,st) (by simp [Ty.size])
  left
  refine ⟨hf.2.1.trans h0,by simp [gp,cq],[.n],by simp [gp,cq],rfl,?_⟩
  rw [hf.1];simp [PT.cnt,Ty.bare]
 | .name p s,scope,ns,env,st,T,id,site,hn,hr,h0,ho=>by
  simp only [NA] at hn
  subst hn
  simp only [aD]
  rcases hr.look s with ⟨h1,h2⟩ | ⟨t,h1,h2,h3⟩
  ·rw [h1]
   simp only
   have hf:=lC id p (Ty.n,cZ st 4 p) (by simp [Ty.size])
   have he:(cZ st 4 p).e=4/\(cZ st 4 p).at_=p:=by unfold cZ;rw [if_pos h0];exact ⟨rfl,rfl⟩
   right
   refine ⟨by rw [hf.2.1];simp [he.1],?_⟩
   rw [hf.2.1,hf.2.2]
   simp [gp,cq,h2,he]
  ·rw [h1]
   simp only
   obtain ⟨x,hx,rfl⟩:=DN h1
   have hf:=lC id p (x.2,st) (ho.2 h0 x hx)
   left
   refine ⟨hf.2.1.trans h0,by simp [gp,cq,h2],[x.2.bare],by simp [gp,cq,h2,h3],rfl,?_⟩
   rw [hf.1];simp [PT.cnt]
 | .node p k nm rg kids,scope,ns,env,st,T,id,site,hn,hr,h0,ho=>by
  simp only [NA] at hn
  obtain ⟨ks,aR,hks,rfl⟩:=hn
  have hb:=hks.Vz
  have hK:=SY cls hc nm kids (cf k) scope ks env .n st T (id+1) (site+if k=.pair then 1 else 0) hks hr h0 ho lU (by simp [Ty.size]) (fun e=>by revert e;cases k <;> simp [cf])
  have hlen:(nC cls nm kids (cf k) (id+1) (site+if k=.pair then 1 else 0) env .n st).1.length=(cf k).length:=BP cls nm kids (cf k) _ _ _ _ _ hb
  rw [Ee cls p k nm rg kids id site env .n st hb]
  generalize nC cls nm kids (cf k) (id+1) (site+if k=.pair then 1 else 0) env .n st=x at hK hlen
  rw [nE]
  obtain ⟨hA,hS⟩:=hK
  rcases hA with ⟨e0,hy,T',Wl,OZ,hP⟩ | ⟨e1,hy⟩
  ·have Oc:¬ (x.2.e≠0/\k≠.aT):=fun h=>h.1 e0
   rw [if_neg Oc,hy,if_neg (by simp),Wl]
   have hnm:=KR cls k id p site x.1 x.2 (T++T') aR nm (aq rg) ((aA kids T.length).getD 0 (-1)) ((aA kids T.length).getD 1 (-1)) ((aA kids T.length).getD 2 (-1)) hlen e0 (fun t ht=>hS e0 t ht) (hP 0) (hP 1) (hP 2)
   simp only [gp]
   rcases hnm with ⟨f0,ft⟩ | ⟨f1,f2,f3⟩
   ·left
    rw [ft]
    refine ⟨f0,by simp,T'++[(fin id p (aP cls k p site x.1 x.2)).1.bare],by simp,by simp [OZ,PT.cnt];omega,?_⟩
    show (T++(T'++[_]))[_]?=_
    have hi:T.length+(PT.node p k nm rg kids).cnt - 1=(T++T').length:=by simp [OZ,PT.cnt];omega
    rw [<- List.append_assoc,hi,List.getElem?_append_right (Nat.le_refl _)]
    simp
   ·right
    rw [f2,if_pos f1]
    exact ⟨f1,by simp [f3]⟩
  ·have hne:(gp T ks).1.1≠0:=by rw [hy];exact e1
   rw [if_pos hne]
   right
   have hst:∀ y:Ty × dM,y.2=x.2->(fin id p y).2.e≠0/\(gp T ks).1=((fin id p y).2.e,(fin id p y).2.at_):=by
    intro y hyx
    have:=mN id p y (by rw [hyx];exact e1)
    rw [this.1,this.2,hyx];exact ⟨e1,hy⟩
   by_cases hk:k=.aT
   ·rw [if_neg (fun h=>h.2 hk)]
    exact hst _ (by simp [aP,hk])
   ·rw [if_pos ⟨e1,hk⟩]
    exact hst _ rfl
theorem SY (cls:List Nat) (hc:∀ x∈cls,x < 1000) (nm:List UInt8):∀ (ts:List PT) (bs:List Bool) (scope:Sc) (ns:List NR) (env:aQ) (prev:Ty) (st:dM) (T:List Ty) (id site:Nat),cY scope nm ts bs T.length ns->dA T env scope->st.e=0->j3 env st ->
  prev.fit->prev.size<=63->(bs.head?=some true->0 < T.length/\T[T.length - 1]?=some prev.bare) ->
  Agree T (az ts) (nC cls nm ts bs id site env prev st).2.e (nC cls nm ts bs id site env prev st).2.at_ (gp T ns) (fun T1=>∀ (j:Nat) (t:Ty),(nC cls nm ts bs id site env prev st).1[j]?=some t->ai T1 ((aA ts T.length).getD j (-1))=t.bare) /\
   ((nC cls nm ts bs id site env prev st).2.e=0->∀ t∈(nC cls nm ts bs id site env prev st).1,t.size<=63)
 | [],bs,scope,ns,env,prev,st,T,id,site,hn,_,h0,_,_,_,_=>by
  simp only [cY] at hn
  obtain ⟨rfl,rfl⟩:=hn
  simp only [nC]
  exact ⟨Or.inl ⟨h0,rfl,[],by simp [gp],rfl,by simp⟩,by simp⟩
 | _::_,[],_,_,_,_,_,_,_,_,hn,_,_,_,_,_,_=>by simp [cY] at hn
 | a::r,b::bs,scope,ns,env,prev,st,T,id,site,hn,hr,h0,ho,gI,vA,hp3=>by
  simp only [cY] at hn
  obtain ⟨na,nc,h1,h2,rfl⟩:=hn
  have hr':dA T (if b then env++[(nm,prev)] else env) (if b then scope++[(nm,(T.length:Int) - 1)] else scope):=by
   cases b with
   | false=>exact hr
   | true =>
    obtain ⟨hT0,mr⟩:=hp3 rfl
    refine hr.app ⟨rfl,?_,?_,trivial⟩
    ·show (0:Int)<=(T.length:Int) - 1;omega
    ·show T[((T.length:Int) - 1).toNat]?=_
     rw [show ((T.length:Int) - 1).toNat=T.length - 1 from by omega];exact mr
  have C5:j3 (if b then env++[(nm,prev)] else env) st:=by
   cases b with
   | false=>exact ho
   | true =>
    constructor
    ·intro x hx
     rcases List.mem_append.1 hx with hx | hx
     ·exact ho.1 x hx
     ·rw [List.mem_singleton] at hx;subst hx;exact gI
    ·intro e0 x hx
     rcases List.mem_append.1 hx with hx | hx
     ·exact ho.2 e0 x hx
     ·rw [List.mem_singleton] at hx;subst hx;exact vA
  have hA:=Xo cls hc a (if b then scope++[(nm,(T.length:Int) - 1)] else scope) na (if b then env++[(nm,prev)] else env) st T id site h1 hr' h0 C5
  have hR:=fw cls hc a id site (if b then env++[(nm,prev)] else env) st C5
  simp only [nC]
  generalize aD cls a id site (if b then env++[(nm,prev)] else env) st=x at hA hR
  rw [nE]
  rcases hA with ⟨e0,hy,T',Wl,OZ,hP⟩ | ⟨e1,hy⟩
  ·rw [hy,if_neg (by simp),Wl]
   have hl1:(T++T').length=T.length+a.cnt:=by simp [OZ]
   have hcp:=cH a
   have hB:=SY cls hc nm r bs scope nc env x.1 x.2 (T++T') (id+a.cnt) (site+a.bK) (by rw [hl1];exact h2) hr.more e0 (ho.on (fun _=>h0)) hR.1 (hR.2.1 e0).2 (fun _=>⟨by omega,by rw [hl1];exact hP⟩)
   generalize nC cls nm r bs (id+a.cnt) (site+a.bK) env x.1 x.2=y at hB
   obtain ⟨Tv,lE⟩:=hB
   refine ⟨?_,?_⟩
   ·rcases Tv with ⟨f0,fy,T2,rY,abr,hP2⟩ | ⟨f1,fy⟩
    ·left
     refine ⟨f0,fy,T'++T2,by rw [rY];simp,by simp [OZ,abr,az],?_⟩
     intro j t hj
     cases j with
     | zero =>
      simp only [List.getElem?_cons_zero,Option.some.injEq] at hj
      subst hj
      simp only [aA,List.getD_cons_zero]
      rw [show ((T.length+a.cnt:Nat):Int) - 1=((T.length+a.cnt - 1:Nat):Int) from by omega,<- List.append_assoc]
      refine rC ?_
      rw [List.getElem?_append_left (by omega)];exact hP
     | succ j =>
      simp only [List.getElem?_cons_succ] at hj
      simp only [aA,List.getD_cons_succ]
      have:=hP2 j t hj
      rw [hl1] at this
      rw [<- List.append_assoc];exact this
    ·exact Or.inr ⟨f1,fy⟩
   ·intro f0 t ht
    rcases List.mem_cons.1 ht with rfl | ht
    ·exact (hR.2.1 e0).2
    ·exact lE f0 t ht
  ·have hne:(gp T na).1.1≠0:=by rw [hy];exact e1
   rw [if_pos hne]
   have hs:=yt cls nm r bs (id+a.cnt) (site+a.bK) env x.1 x.2 e1
   generalize nC cls nm r bs (id+a.cnt) (site+a.bK) env x.1 x.2=y at hs
   refine ⟨Or.inr ⟨?_,?_⟩,?_⟩
   ·rw [hs.1];exact e1
   ·rw [hy,hs.1,hs.2]
   ·intro f0;rw [hs.1] at f0;exact absurd f0 e1
end
mutual
def PT.EW:PT->List (Nat × List UInt8)
 | .num _ _=>[]
 | .name _ _=>[]
 | .node p k _ rg kids=>(if k=.pair then [(p,rg)] else [])++tT kids
def tT:List PT->List (Nat × List UInt8)
 | []=>[]
 | t::r=>t.EW++tT r
end
mutual
theorem vE:∀ t:PT,t.EW.length=t.bK
 | .num _ _=>rfl
 | .name _ _=>rfl
 | .node _ k _ _ kids=>by simp only [PT.EW,PT.bK,List.length_append,EI kids];split <;> rfl
theorem EI:∀ ts:List PT,(tT ts).length=iX ts
 | []=>rfl
 | t::r=>by simp only [tT,iX,List.length_append,vE t,EI r]
end
end Go.Proofs.YtpicaknklgccoabGreatDoor
