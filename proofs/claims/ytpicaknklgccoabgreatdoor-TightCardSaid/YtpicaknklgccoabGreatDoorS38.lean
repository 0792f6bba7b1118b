import Derived.Test.YtpicaknklgccoabGreatDoorS37
set_option maxHeartbeats 8000000
set_option maxRecDepth 100000
namespace Go.Proofs.YtpicaknklgccoabGreatDoor
def Cp:Nat->List UInt8->Option Nat
 | d,[]=>some d
 | d,c::r=>if c=40 then Cp (d+1) r else if c=41 then (if d=0 then none else Cp (d - 1) r) else Cp d r
theorem lB (w r:List UInt8) (h:∀ c∈w,c≠40/\c≠41) (d:Nat):Cp d (w++r)=Cp d r:=by
 induction w with
 | nil=>rfl
 | cons a w ih =>
  have ha:=h a (by simp)
  simp only [List.cons_append,Cp,if_neg ha.1,if_neg ha.2]
  exact ih (fun c hc=>h c (by simp [hc]))
theorem yD {w:List UInt8} (h:∀ c∈w,jX 97 122 c=true):∀ c∈w,c≠40/\c≠41/\c≠32:=fun c hc=>by
 have:=xM (h c hc)
 refine ⟨?_,?_,?_⟩ <;> (rintro rfl;revert this;decide)
theorem rO {w:List UInt8} (h:∀ c∈w,jX 48 57 c=true):∀ c∈w,c≠40/\c≠41/\c≠32:=fun c hc=>by
 have:=xM (h c hc)
 refine ⟨?_,?_,?_⟩ <;> (rintro rfl;revert this;decide)
theorem Ox (k:Kw):∀ c∈k.bytes,c≠40/\c≠41/\c≠32:=by cases k <;> decide
theorem Oy {k:Kw} {rg:List UInt8} (h:if True/\(k=.pair\/k=.new) then ∃ d,rg=35::d/\xL d 3 else rg=[]):∀ c∈fP rg,c≠40/\c≠41:=by
 intro c hc
 split at h
 ·obtain ⟨d,rfl,hd⟩:=h
  simp only [fP,reduceCtorEq,if_false,List.mem_cons] at hc
  rcases hc with rfl | rfl | hc
  ·decide
  ·decide
  ·exact ⟨(rO hd.1 c hc).1,(rO hd.1 c hc).2.1⟩
 ·subst h;simp [fP] at hc
theorem Oz {k:Kw} {nm:List UInt8} (h:if k=.aT\/k=.loop then xK nm else nm=[]):∀ c∈nm,c≠40/\c≠41:=by
 intro c hc
 split at h
 ·exact ⟨(yD h.2.1 c hc).1,(yD h.2.1 c hc).2.1⟩
 ·subst h;simp at hc
theorem VA {k:Kw} {nm:List UInt8} (h:∀ c∈nm,c≠40/\c≠41) (i:Nat):∀ c∈(if (k=.aT/\i=0)\/(k=.loop/\i=1) then 32::nm else [])++[32],c≠40/\c≠41:=by
 intro c hc
 rcases List.mem_append.1 hc with hc | hc
 ·split at hc
  ·rcases List.mem_cons.1 hc with hc | hc
   ·subst hc;decide
   ·exact h c hc
  ·simp at hc
 ·simp only [List.mem_singleton] at hc
  subst hc;decide
theorem yE (k:Kw) (nm:List UInt8) (i:Nat) (x:List UInt8):bP k nm i x=((if (k=.aT/\i=0)\/(k=.loop/\i=1) then 32::nm else [])++[32])++x:=by unfold bP;simp
mutual
theorem Ek:∀ (t:PT),t.ok true->∀ (d:Nat) (r:List UInt8),Cp d (t.tidy++r)=Cp d r
 | .num _ s,h,d,r=>lB s r (fun c hc=>⟨(rO h.1 c hc).1,(rO h.1 c hc).2.1⟩) d
 | .name _ s,h,d,r=>lB s r (fun c hc=>⟨(yD h.2.1 c hc).1,(yD h.2.1 c hc).2.1⟩) d
 | .node _ k nm rg kids,h,d,r=>by
  simp only [PT.ok] at h
  have hj:=AQ k nm (Oz h.2.2.1) kids h.2.2.2.2 0 (d+1) (41::r)
  simp only [PT.tidy,List.cons_append,List.append_assoc,List.nil_append,Cp,if_true]
  rw [lB _ _ (fun c hc=>⟨(Ox k c hc).1,(Ox k c hc).2.1⟩),lB _ _ (Oy h.2.2.2.1),hj]
  simp only [Cp,if_true,Nat.add_sub_cancel]
  rw [if_neg (by decide),if_neg (by omega)]
theorem AQ (k:Kw) (nm:List UInt8) (hn:∀ c∈nm,c≠40/\c≠41):∀ (l:List PT),qx true l->∀ (i d:Nat) (r:List UInt8),Cp d (bn k nm i (ct l)++r)=Cp d r
 | [],_,_,_,_=>rfl
 | t::l,h,i,d,r=>by
  simp only [qx] at h
  simp only [ct,bn,yE,List.append_assoc]
  rw [<- List.append_assoc (if (k=.aT/\i=0)\/(k=.loop/\i=1) then 32::nm else []),lB _ _ (VA hn i),Ek t h.1,AQ k nm hn l h.2]
end
def iU:List UInt8:=[40,110,101,119,32,35]
inductive BZ (raw:List Int):List UInt8->jg->List UInt8->Prop
 | nil {c:jg}:BZ raw [] c []
 | pass {b:UInt8} {r out:List UInt8} {c:jg} (h:¬ iU <+: b::r) (hs:BZ raw r c out):BZ raw (b::r) c (b::out)
 | keep {b:UInt8} {r out:List UInt8} {c:jg} (h:iU <+: b::r) (hk:(aL raw 2 c).1=0) (hs:BZ raw r (aL raw 2 c).2 out):BZ raw (b::r) c (b::out)
 | lift {d body post out:List UInt8} {c:jg} (hk:(aL raw 2 c).1≠0) (hd:∀ x∈d,x≠40/\x≠41/\x≠32) (hb:Cp 0 body=some 0) (hs:BZ raw (body++post) (aL raw 2 c).2 out):BZ raw (iU++(d++(32::(body++(41::post))))) c out
theorem yF {b:UInt8} {r:List UInt8} (h:b≠40):¬ iU <+: b::r:=by
 intro hp
 unfold iU at hp
 rw [List.cons_prefix_cons] at hp
 exact h hp.1.symm
theorem oP {raw:List Int} {r out:List UInt8} {c:jg} (w:List UInt8) (hw:∀ x∈w,x≠40) (h:BZ raw r c out):BZ raw (w++r) c (w++out):=by
 induction w with
 | nil=>exact h
 | cons a w ih=>exact .pass (yF (hw a (by simp))) (ih (fun x hx=>hw x (by simp [hx])))
theorem VB {k:Kw} (hk:k≠.new) (r:List UInt8):¬ iU <+: 40::(k.bytes++r):=by
 intro hp
 unfold iU at hp
 rw [List.cons_prefix_cons] at hp
 have h2:=hp.2
 cases k <;> first | exact absurd rfl hk | (simp only [Kw.bytes,List.cons_append,List.cons_prefix_cons] at h2;exact absurd h2.1 (by decide))
mutual
theorem tf (raw:List Int):∀ (t:PT),t.ok true->∀ (c:jg) (r out:List UInt8),BZ raw r (t.lift raw c).2 out->BZ raw (t.tidy++r) c ((t.lift raw c).1.tidy++out)
 | .num _ s,h,c,r,out,hs=>oP s (fun x hx=>(rO h.1 x hx).1) hs
 | .name _ s,h,c,r,out,hs=>oP s (fun x hx=>(yD h.2.1 x hx).1) hs
 | .node p k nm rg kids,h,c,r,out,hs=>by
  simp only [PT.ok] at h
  obtain ⟨h1,h2,h3,h4,h5⟩:=h
  by_cases hk:k=.new
  ·subst hk
   match kids,h2,h5,hs with
   | [a],_,h5,hs =>
    simp only [qx,and_true] at h5
    rw [if_pos ⟨trivial,Or.inr rfl⟩] at h4
    obtain ⟨d,rfl,hd⟩:=h4
    have e1:(PT.node p .new nm (35::d) [a]).tidy++r=iU++(d++(32::(a.tidy++(41::r)))):=by
     simp [PT.tidy,ct,bn,bP,fP,iU,Kw.bytes]
    simp only [PT.lift,gX,if_true] at hs ⊢
    by_cases hz:(aL raw 2 c).1=0
    ·rw [if_pos hz] at hs ⊢
     have h6:=tf raw a h5 (aL raw 2 c).2 (41::r) (41::out) (.pass (yF (by decide)) hs)
     have h7:=oP ([110,101,119,32,35]++(d++[32])) (fun x hx=>by
      rcases List.mem_append.1 hx with hx | hx
      ·have:∀ x∈([110,101,119,32,35]:List UInt8),x≠40:=by decide
       exact this x hx
      ·rcases List.mem_append.1 hx with hx | hx
       ·exact (rO hd.1 x hx).1
       ·simp only [List.mem_singleton] at hx
        subst hx;decide) h6
     have h8:BZ raw (40::(([110,101,119,32,35]++(d++[32]))++(a.tidy++41::r))) c (40::(([110,101,119,32,35]++(d++[32]))++((a.lift raw (aL raw 2 c).2).1.tidy++41::out))):=.keep (by simp [iU]) hz h7
     rw [e1]
     have e2:(40::(([110,101,119,32,35]++(d++[32]))++(a.tidy++41::r)))=iU++(d++(32::(a.tidy++(41::r)))):=by simp [iU]
     rw [e2] at h8
     have e3:(40::(([110,101,119,32,35]++(d++[32]))++((a.lift raw (aL raw 2 c).2).1.tidy++41::out)))=(PT.node p .new nm (35::d) [(a.lift raw (aL raw 2 c).2).1]).tidy++out:=by
      simp [PT.tidy,ct,bn,bP,fP,Kw.bytes]
     rw [<- e3];exact h8
    ·rw [if_neg hz] at hs ⊢
     simp only [List.headD_cons]
     rw [e1]
     refine .lift hz (rO hd.1) ?_ (tf raw a h5 (aL raw 2 c).2 r out hs)
     have:=Ek a h5 0 []
     rw [List.append_nil] at this;exact this
  ·simp only [PT.lift,if_neg hk] at hs ⊢
   have h6:=El raw k nm (fun x hx=>(Oz h3 x hx).1) kids h5 0 c (41::r) (41::out) (.pass (yF (by decide)) hs)
   have h7:=oP (k.bytes++fP rg) (fun x hx=>by
    rcases List.mem_append.1 hx with hx | hx
    ·exact (Ox k x hx).1
    ·exact (Oy h4 x hx).1) h6
   have h8:=BZ.pass (by rw [List.append_assoc];exact VB hk _) h7
   simp only [PT.tidy,List.cons_append,List.append_assoc,List.nil_append] at h8 ⊢
   exact h8
theorem El (raw:List Int) (k:Kw) (nm:List UInt8) (hn:∀ x∈nm,x≠40):∀ (l:List PT),qx true l->∀ (i:Nat) (c:jg) (r out:List UInt8),BZ raw r (gX raw l c).2 out->BZ raw (bn k nm i (ct l)++r) c (bn k nm i (ct (gX raw l c).1)++out)
 | [],_,_,_,_,_,hs=>hs
 | t::l,h,i,c,r,out,hs=>by
  simp only [qx] at h
  simp only [gX] at hs ⊢
  have h1:=El raw k nm hn l h.2 (i+1) (t.lift raw c).2 r out hs
  have h2:=tf raw t h.1 c _ _ h1
  have h3:=oP ((if (k=.aT/\i=0)\/(k=.loop/\i=1) then 32::nm else [])++[32]) (fun x hx=>by
   rcases List.mem_append.1 hx with hx | hx
   ·split at hx
    ·rcases List.mem_cons.1 hx with hx | hx
     ·subst hx;decide
     ·exact hn x hx
    ·simp at hx
   ·simp only [List.mem_singleton] at hx
    subst hx;decide) h2
  simp only [ct,bn,yE,List.append_assoc] at h3 ⊢
  exact h3
end
theorem Rz (raw:List Int) (t:PT) (h:t.ok true) (c:jg):BZ raw t.tidy c (t.lift raw c).1.tidy:=by
 have:=tf raw t h c [] [] .nil
 simpa using this
open Go.RowKit
mutual
theorem AR:∀ (e:PT) (rs:List Int),cg rs e.np->cg rs e
 | .num _ _,_,_=>by simp [cg]
 | .name _ _,_,_=>by simp [cg]
 | .node _ k nm rg kids,rs,h=>by
  simp only [PT.np,cg] at h ⊢
  exact ⟨h.1,yG kids _ h.2⟩
theorem yG:∀ (l:List PT) (rs:List Int),cV rs (eX l)->cV rs l
 | [],_,_=>by simp [cV]
 | t::r,rs,h=>by
  simp only [eX,cV] at h ⊢
  exact ⟨AR t rs h.1,yG r rs h.2⟩
end
def KG (S:ByteArray) (a b c d:Int):Value:=.agg #[.string S,.int .i64 a,.int .i64 b,.int .i64 c,.int .i64 d]
theorem B0 (s:ByteArray) (hs:s.size<=9000) (e:PT) (hp:PE true (tokens s.data.toList) e []) (hc:cC e=(0,0)) (ans:Nat × Nat) (S9:∀ ns lo hi,NA [] e 0 ns->dr e ns lo hi->qP ns (opn e 0)=ans) :
  ∀ w,Calls Tryz.prog 12 #[.string s] w fun v w'=>v=.returned (.tuple #[.int .i64 ans.1,.int .i64 ans.2])/\Below w.heap.size w w':=by
 intro w
 have h3:=(hp.vg (pI _)).1
 have jL:=jn hp
 have hc1:(cC e).1=0:=by rw [hc]
 have Gv:e.bK<=100:=by
  unfold cC at hc1
  split at hc1
  ·simp at hc1
  ·omega
 have h0:(aD (oJ e) e 0 0 [] (CO e)).2.e=0:=(Oe e Gv).1.trans hc1
 refine Dw s w e (cC e).2 ans (fun w=>?_) (fun w' x1 n1 c1 x2 n2 c2 ns hTr bt=>?_)
 ·have:=xF s w hs e hp
  rw [hc1] at this
  exact this
 ·obtain ⟨hsz,_⟩:=Od e ns bt.1 h3 h0
  rw [<- S9 ns _ _ bt.1 bt.2]
  exact wD w' _ _ ns (opn e 0) hTr (zZ bt.1) (by have:=bt.1.len;omega) (bt.1.small (fun _ h=>by simp at h) (by omega)) (bt.1.Y0 h3) hsz
theorem AU (T:List Ty) (rg a b:Nat):∀ (l:List NR) (k:Nat),eQ T rg a b l k=-1\/∃ (j:Nat) (m:NR),l[j]?=some m/\eQ T rg a b l k=((k+j:Nat):Int)/\m.at_<=a/\b<=m.aR
 | [],k=>Or.inl rfl
 | x::r,k=>by
  simp only [eQ]
  split
  ·rename_i hc
   exact Or.inr ⟨0,x,rfl,rfl,hc.1,hc.2.1⟩
  ·rcases AU T rg a b r (k+1) with h | ⟨j,m,e1,e2,e3⟩
   ·exact Or.inl h
   ·exact Or.inr ⟨j+1,m,by simpa using e1,by rw [e2,show k+1+j=k+(j+1) by omega],e3⟩
def Ld (N:List Int):List Int:=((List.range N.length).filter (fun r=>N[r]? == some (-1))).map (fun r:Nat=>(r:Int))
theorem pM (N:List Int) (x:Int):x∈Ld N↔∃ r:Nat,x=(r:Int)/\N[r]?=some (-1):=by
 unfold Ld
 rw [List.mem_map]
 constructor
 ·rintro ⟨r,h,rfl⟩
  rw [List.mem_filter] at h
  exact ⟨r,rfl,by simpa using h.2⟩
 ·rintro ⟨r,rfl,h⟩
  exact ⟨r,by rw [List.mem_filter,List.mem_range];exact ⟨(List.getElem?_eq_some_iff.1 h).1,by simpa using h⟩,rfl⟩
theorem B6 {e:PT} {ns:List NR} {n0:NR} (hnn:cS e) (hN:Nds e ns n0) (hL:Eb (gh e ns n0) (gi e ns n0) ns (uh e ns n0)):cg (Ld (gi e ns n0)) (e.lay (gh e ns n0) (gi e ns n0) 0):=by
 obtain ⟨lo,hi,hp⟩:=hN.pos
 have hlen:=hN.na.len
 refine yz hL.pr e ns lo hi 0 _ hp (fun k n hn=>by rw [Nat.zero_add];exact hn) hN.na.wN hnn (fun i n i1 i2 hn h4=>?_)
 have hr:=(hL.pr i n hn).1 h4
 obtain ⟨r,rT⟩:∃ r:Nat,jJ (gh e ns n0) i=(r:Int):=⟨(jJ (gh e ns n0) i).toNat,by omega⟩
 have hty:=hL.ty i n hn
 have aa8:(ai (uh e ns n0) ((0+i:Nat):Int)).has r=true:=by
  rw [Nat.zero_add,hty]
  unfold cR
  have:(fL n (jJ (gh e ns n0) i)).form=4:=h4
  simp only [this]
  simp only [Nat.reduceEqDiff,if_false,if_true,fL,rT,Int.toNat_natCast]
  rw [R3];simp
 have hrl:r < (vq e ns n0).length:=by
  have h1:jJ (gh e ns n0) i=lI (vq e ns n0) (bu (BN ns n0) n.at_):=by unfold gh;rw [uf _ _ ns i n hn,if_pos h4]
  unfold lI at h1
  split at h1
  ·rename_i x hx
   have:=(List.findIdx?_eq_some_iff_getElem.1 hx).1
   omega
  ·omega
 obtain ⟨s1,s2,s3⟩:=yA (uh e ns n0) r ns 0 n0.aR n0.at_
 obtain ⟨sa,sb⟩:=s3 i n hn aa8
 have ZZ:(gi e ns n0)[r]?=some (eQ (uh e ns n0) r (dI (uh e ns n0) r ns 0 n0.aR n0.at_).1 (dI (uh e ns n0) r ns 0 n0.aR n0.at_).2 ns 0):=by
  unfold gi gT
  rw [List.getElem?_map,List.getElem?_range hrl]
  rfl
 rcases AU (uh e ns n0) r (dI (uh e ns n0) r ns 0 n0.aR n0.at_).1 (dI (uh e ns n0) r ns 0 n0.aR n0.at_).2 ns 0 with hm | ⟨j,m,e1,e2,e3,e4⟩
 ·left
  rw [hm] at ZZ
  exact (pM _ _).2 ⟨r,rT,ZZ⟩
 ·right
  refine ⟨j,m,Nat.zero_le _,by have:=(List.getElem?_eq_some_iff.1 e1).1;omega,e1,?_,by omega,by omega⟩
  rw [rT,Int.toNat_natCast,ZZ,e2,Nat.zero_add]
theorem OA {e:PT} {ns:List NR} (h:NA [] e 0 ns):∀ n,n∈bE ns (opn e 0)↔n∈ns:=by
 have hl:=h.len
 have ho:=zZ h
 intro n
 unfold bE
 rw [List.mem_map]
 constructor
 ·rintro ⟨x,hx,rfl⟩
  obtain ⟨h1,h2⟩:=ho.2 x hx
  rw [List.getElem?_eq_getElem h2]
  exact List.getElem_mem h2
 ·intro hn
  obtain ⟨i,hi,he⟩:=List.getElem_of_mem hn
  exact ⟨(i:Int),BM e 0 i (Nat.zero_le _) (by omega),by rw [Int.toNat_natCast,List.getElem?_eq_getElem hi,he];rfl⟩
theorem KH {l:List NR} (h:(l.map (·.region)).Nodup):∀ a∈l,∀ b∈l,a.region=b.region->a=b:=by
 induction l with
 | nil=>intro a ha;simp at ha
 | cons x r ih =>
  rw [List.map_cons,List.nodup_cons] at h
  intro a ha b hb e
  rcases List.mem_cons.1 ha with ha | ha
  ·rcases List.mem_cons.1 hb with hb | hb
   ·rw [ha,hb]
   ·exact absurd (List.mem_map.2 ⟨b,hb,by rw [<- e,ha]⟩) h.1
  ·rcases List.mem_cons.1 hb with hb | hb
   ·exact absurd (List.mem_map.2 ⟨a,ha,by rw [e,hb]⟩) h.1
   ·exact ih h.2 a ha b hb e
theorem OB {e:PT} {T:Ty} {N:List Int} {ns:List NR} {lo hi k:Nat} (hwr:mw [] e T) (hnd:e.kH.Nodup) (hin:GG N 0 k e.kH) (tD:cg (Ld N) e) (bt:NA [] e 0 ns) (hpo:dr e ns lo hi):qP ns (opn e 0)=(0,0):=by
 have lD:=IQ ns e [] 0 ns bt (fun j _=>by rw [Nat.zero_add])
 have hnk:=um (bE ns (opn e 0)) [] (by rw [List.nil_append,lD];exact hnd)
 rw [List.nil_append] at hnk
 have aa9:=KH (l:=(bE ns (opn e 0)).filter f12) (by rw [lD];exact hnd)
 have hall:=OA bt
 have hout:=IU ((bE ns (opn e 0)).filter f12) (bE ns (opn e 0)) (fun n hn h4 o ho=>by
  have hn:=(hall n).1 hn
  have hom:o∈(bE ns (opn e 0)).filter f12:=List.mem_of_find?_eq_some ho
  have ik:o.region=n.region:=by simpa using List.find?_some ho
  rcases s9 e _ [] 0 ns lo hi tD bt hpo n hn h4 with hr | ⟨o',C5,h12,R9,h5⟩
  ·exfalso
   obtain ⟨r,e1,e2⟩:=(pM _ _).1 hr
   have:o.region∈e.kH:=by rw [<- lD];exact List.mem_map.2 ⟨o,hom,rfl⟩
   obtain ⟨r',i,f1,f2,_⟩:=hin _ this
   have:r=r':=by omega
   subst this
   rw [e2] at f2
   simp only [Option.some.injEq] at f2
   omega
  ·have:o=o':=aa9 o hom o' (List.mem_filter.2 ⟨(hall o').2 C5,by simp [f12,h12]⟩) (by rw [ik,R9])
   rw [this];exact h5)
 obtain ⟨A,_,hpl⟩:=hwr.plw [] [] ns bt (fun s U hs=>by simp [look] at hs)
 unfold qP
 rw [hnk]
 simp only [ne_eq,not_true_eq_false,if_false,hout]
 exact hpl.pl
open Go.Lib (decDigits)
mutual
theorem nD:∀ t:PT,t.np.cnt=t.cnt
 | .num _ _=>rfl
 | .name _ _=>rfl
 | .node _ _ _ _ kids=>by simp only [PT.np,PT.cnt,Em kids]
theorem Em:∀ l:List PT,az (eX l)=az l
 | []=>rfl
 | t::r=>by simp only [eX,az,nD t,Em r]
end
theorem pN (i:Int) (t:PT):∀ (l:List Int) (r:Nat),(eF l r i t).lO=t.lO
 | [],_=>rfl
 | a::l,r=>by
  simp only [eF]
  split
  ·simp only [PT.lO,if_true,ig,List.headD_cons];exact pN i t l (r+1)
  ·exact pN i t l (r+1)
mutual
theorem En (R N:List Int):∀ (t:PT) (b:Nat),(t.eU R N b).lO=t.lO
 | .num _ s,_=>by simp only [PT.eU,PT.lO];rw [jw,Int.toNat_natCast]
 | .name _ s,_=>by simp [PT.eU,PT.lO]
 | .node _ k nm _ kids,b=>by simp only [PT.eU,PT.lO,Eo R N kids b]
theorem Eo (R N:List Int):∀ (l:List PT) (b:Nat),ig (gD R N l b)=ig l
 | [],_=>rfl
 | t::r,b=>by simp only [gD,ig,pN,En R N t b,Eo R N r _]
end
mutual
theorem lY (fuel:Nat):∀ e:PT,mW fuel e.np=mW fuel e
 | .num _ _=>by funext sc base m;simp only [PT.np,mW]
 | .name _ _=>by funext sc base m;simp only [PT.np,mW]
 | .node _ k nm rg kids=>by
  funext sc base m
  simp only [PT.np,mW,RA fuel _ kids,RB fuel nm kids,VC fuel kids,OC fuel nm kids,RC fuel k _ kids]
theorem RA (fuel:Nat) (rg:Int):∀ l:List PT,pV fuel rg (eX l)=pV fuel rg l
 | []=>rfl
 | [a]=>by funext sc base m;simp only [eX,pV,lY fuel a]
 | _::_::_=>by funext sc base m;simp only [eX,pV]
theorem RB (fuel:Nat) (nm:List UInt8):∀ l:List PT,sD fuel nm (eX l)=sD fuel nm l
 | []=>rfl
 | [_]=>by funext sc base m;simp only [eX,sD]
 | [a,b]=>by funext sc base m;simp only [eX,sD,lY fuel a,lY fuel b,nD]
 | _::_::_::_=>by funext sc base m;simp only [eX,sD]
theorem VC (fuel:Nat):∀ l:List PT,Fz fuel (eX l)=Fz fuel l
 | []=>rfl
 | [_]=>by funext sc base m;simp only [eX,Fz]
 | [_,_]=>by funext sc base m;simp only [eX,Fz]
 | [a,b,c]=>by funext sc base m;simp only [eX,Fz,lY fuel a,lY fuel b,lY fuel c,nD]
 | _::_::_::_::_=>by funext sc base m;simp only [eX,Fz]
theorem OC (fuel:Nat) (nm:List UInt8):∀ l:List PT,kU fuel nm (eX l)=kU fuel nm l
 | []=>rfl
 | [_]=>by funext sc base m;simp only [eX,kU]
 | [_,_]=>by funext sc base m;simp only [eX,kU]
 | [a,b,c]=>by funext sc base m;simp only [eX,kU,lY fuel a,lY fuel b,lY fuel c,nD]
 | _::_::_::_::_=>by funext sc base m;simp only [eX,kU]
theorem RC (fuel:Nat) (k:Kw) (rg:Int):∀ l:List PT,fN fuel k rg (eX l)=fN fuel k rg l
 | []=>rfl
 | [a]=>by funext sc base m;simp only [eX,fN,lY fuel a]
 | [a,b]=>by funext sc base m;simp only [eX,fN,lY fuel a,lY fuel b,nD]
 | _::_::_::_=>by funext sc base m;simp only [eX,fN]
end
mutual
theorem Ca:∀ e:PT,e.jr->e.np.jr
 | .num _ _,h=>h
 | .name _ _,h=>h
 | .node _ k nm rg kids,h=>by
  simp only [PT.np,PT.jr] at h ⊢
  exact ⟨h.1,Ep kids h.2⟩
theorem Ep:∀ l:List PT,cL l->cL (eX l)
 | [],h=>h
 | t::r,h=>by
  simp only [eX,cL] at h ⊢
  exact ⟨Ca t h.1,Ep r h.2⟩
end
theorem OD {f:Nat} {e:PT} {U T':Ty} (D1:WT [] e U) (hwr:mw [] e T') (hrg:e.jr) (he:(ev f e.era [] ⟨0,0,0⟩).2.e=0):(mW f e [] 0 ((m0 e.cnt).opn (-1))).2.fault=0:=by
 have hlen:((m0 e.cnt).opn (-1)).named.length=e.cnt:=by simp [m0,MM.opn]
 have her:ER ((m0 e.cnt).opn (-1)).named ((m0 e.cnt).opn (-1)).cells [] [] [] 0:=fun s T h=>by simp [look] at h
 have hs0:Sw f ⟨0,0,0⟩ ((m0 e.cnt).opn (-1)):=⟨rfl,rfl,rfl,Nat.zero_le _,rfl,by simp [m0,MM.opn]⟩
 have hlv:=(IB f hwr [] 0 ((m0 e.cnt).opn (-1)) (fun s U hs=>by simp [look] at hs) (by rw [hlen];omega) rfl (by simp [m0,MM.opn])).ok
 rcases Gp f D1 [] 0 ((m0 e.cnt).opn (-1)) [] ⟨0,0,0⟩ hrg her (by rw [hlen];omega) hs0 with ⟨h1,_,_⟩ | hB | hD
 ·exact h1.f
 ·rw [hB.1] at he;cases he
 ·rcases hlv with h12 | ⟨h0,_⟩
  ·rw [hD] at h12;cases h12
  ·rw [hD] at h0;cases h0
def yH (N l:List Int):List Int:=(List.range N.length).map (fun r=>if ((r:Nat):Int)∈l then -1 else N.getD r (-1))
theorem yI (N l:List Int) (r:Nat) (x:Int) (h:N[r]?=some x):(yH N l)[r]?=some (if ((r:Nat):Int)∈l then -1 else x):=by
 have hl:=(List.getElem?_eq_some_iff.1 h).1
 unfold yH
 rw [List.getElem?_map,List.getElem?_range hl]
 simp only [Option.map_some,List.getD_eq_getElem?_getD,h,Option.getD_some]
theorem Er {N l:List Int} (x:Int) (h:x∈Ld N):x∈Ld (yH N l):=by
 obtain ⟨r,rfl,hr⟩:=(pM _ _).1 h
 refine (pM _ _).2 ⟨r,rfl,?_⟩
 rw [yI N l r _ hr]
 split <;> rfl
theorem Es {N l:List Int} {a b:Nat} {L:List Int} (hi:GG N a b L) (x:Int) (hx:x∈L) (hl:x∈l):x∈Ld (yH N l):=by
 obtain ⟨r,i,rfl,h2,_⟩:=hi x hx
 refine (pM _ _).2 ⟨r,rfl,?_⟩
 rw [yI N l r _ h2,if_pos hl]
theorem AV {N l:List Int} {a b:Nat} {L L':List Int} (hi:GG N a b L) (h:∀ x∈L',x∈L/\x ∉ l):GG (yH N l) a b L':=by
 intro x hx
 obtain ⟨h1,h2⟩:=h x hx
 obtain ⟨r,i,rfl,h3,h4,h5⟩:=hi x h1
 exact ⟨r,i,rfl,by rw [yI N l r _ h3,if_neg h2],h4,h5⟩
theorem OE {N:List Int} {a b:Nat} {L:List Int} (hi:GG N a b L) (x:Int) (hx:x∈L):x ∉ Ld N:=by
 intro hn
 obtain ⟨r,i,e1,h2,_⟩:=hi x hx
 obtain ⟨r',e2,h3⟩:=(pM _ _).1 hn
 have:r=r':=by omega
 subst this
 rw [h2] at h3
 simp only [Option.some.injEq] at h3
 omega
theorem KI {x:KE} {t:Nat} (h:KT [] x t) (jj:x.bK<=75) (hlen:x.len<=1308) (raw:List Int) (src:ByteArray) (hsrc:src=bs (x.pt []).tidy) :
  ∃ (P Q:ByteArray),P.size<=9000/\BZ raw P.data.toList ⟨0,0,[]⟩ Q.data.toList /\
   (∀ w,Lib.TabIs Tryz.prog w "internal/strconv.uint64pow10" .u64 Lib.pow10Tab->Calls Tryz.prog 16 #[.string src] w fun v w'=>v=.returned (.tuple #[.string P,.int .i64 (0:Nat)])/\Below w.heap.size w w') /\
   (∀ w,Calls Tryz.prog 12 #[.string Q] w fun v w'=>v=.returned (.tuple #[.int .i64 (0:Nat),.int .i64 (0:Nat)])/\Below w.heap.size w w') /\
   (∀ w,Lib.TabIs Tryz.prog w "internal/strconv.uint64pow10" .u64 Lib.pow10Tab->Calls Tryz.prog 18 #[.string Q] w fun v w'=>v=.returned (.tuple #[.string src,.int .i64 0])/\Below w.heap.size w w') /\
   ∃ (v v':Value) (E:Nat),((ev 20000 (x.pt []) [] ⟨0,0,0⟩).2.e=12/\E=12/\v=.agg #[.string ⟨#[]⟩,.int .i64 0,.int .i64 0,.int .i64 0,.int .i64 0]/\v'=.agg #[.string ⟨#[]⟩,.int .i64 0,.int .i64 0,.int .i64 0,.int .i64 0]\/(ev 20000 (x.pt []) [] ⟨0,0,0⟩).2.e=0/\E=0/\∃ c d c' d':Int,v=.agg #[.string (bs (ev 20000 (x.pt []) [] ⟨0,0,0⟩).1.txt),.int .i64 (ev 20000 (x.pt []) [] ⟨0,0,0⟩).2.steps,.int .i64 (ev 20000 (x.pt []) [] ⟨0,0,0⟩).2.cells,.int .i64 c,.int .i64 d]/\v'=.agg #[.string (bs (ev 20000 (x.pt []) [] ⟨0,0,0⟩).1.txt),.int .i64 (ev 20000 (x.pt []) [] ⟨0,0,0⟩).2.steps,.int .i64 (ev 20000 (x.pt []) [] ⟨0,0,0⟩).2.cells,.int .i64 c',.int .i64 d']/\c<=c'/\d<=d') /\
    (∀ w,Lib.TabIs Tryz.prog w "internal/strconv.uint64pow10" .u64 Lib.pow10Tab->Calls Tryz.prog 13 #[.string P,.int .i64 (20000:Nat)] w fun r w'=>r=.returned (.tuple #[v,.int .i64 E])/\Below w.heap.size w w') /\
    (∀ w,Lib.TabIs Tryz.prog w "internal/strconv.uint64pow10" .u64 Lib.pow10Tab->Calls Tryz.prog 13 #[.string Q,.int .i64 (20000:Nat)] w fun r w'=>r=.returned (.tuple #[v',.int .i64 E])/\Below w.heap.size w w'):=by
 obtain ⟨e,hpe,Ob,tu,qj⟩:=NW (ae:=false) (rg:=[]) rfl h (by omega)
 have OG:=F8 (rg:=[]) h
 have hsl:src.data.toList=(x.pt []).tidy:=by rw [hsrc];simp [bs]
 have aba:=Nq (ae:=false) (rg:=[]) rfl h
 have zH:src.size<=3000:=by rw [hsrc,cN];simp at OG;omega
 rw [<- hsl] at hpe
 obtain ⟨ns,n0,hN,hL,Y3⟩:=zJ src zH e hpe Ob
 have iG:=(hpe.bL (eJ _)).1
 obtain ⟨⟨_,hnn⟩,_⟩:=PE.plain hpe (eJ _)
 obtain ⟨e2,T',RD,Y4,Om,hwr,Y5,zu,he2⟩:=Rt h jj hlen tu iG hnn hN hL
 have Y6:=B6 hnn hN hL
 obtain ⟨hnd,hin⟩:=Rx (gh e ns n0) (gi e ns n0) e hnn
 have Gv:e.bK<=75:=by rw [<- tZ,tu,F7 _ h];exact jj
 have hfl:=yq (n0:=n0) hN.na
 have kN:(gi e ns n0).length<=75:=by unfold gi gT;rw [List.length_map,List.length_range];omega
 have hok:e.ok false:=Gx e (by rw [tu];exact aba)
 have Y7:WT [] e (tr t):=gW e (by rw [tu];exact Ih h (by simp))
 have Ru:=N0 hL.pr (show (gi e ns n0).length<=999 by omega) e 0 hN.na.wN iG hok
 have RE:WT [] (e.lay (gh e ns n0) (gi e ns n0) 0) (tr t):=N7 Y7 hnn 0
 obtain ⟨abb,_⟩:=ID hL Y7 hnn iG [] [] 0 [] ns [] hN.na (by simp) rfl (fun s U hs=>by simp [look] at hs)
 have hpx:e.lO=(x.pt []).tidy:=by rw [<- BS,tu,Ol h]
 have hlt:=D5 (gh e ns n0) (gi e ns n0) e 0 hnn
 have abc:=NZ (gh e ns n0) (gi e ns n0) e 0
 have abd:(e.lay (gh e ns n0) (gi e ns n0) 0).lO=(x.pt []).tidy:=by rw [<- hpx];unfold PT.lay;rw [pN,En]
 have Y8:(e.lay (gh e ns n0) (gi e ns n0) 0).bK<=100:=by rw [IA];omega
 rw [<- hlt] at Y3 RD zu
 generalize e.lay (gh e ns n0) (gi e ns n0) 0=L at *
 generalize gi e ns n0=N at *
 -- without some of its news
 obtain ⟨l,VD⟩:=Ry raw RE ⟨0,0,[]⟩
 have hsc:=Rz raw L Ru ⟨0,0,[]⟩
 generalize (L.lift raw ⟨0,0,[]⟩).1=L' at VD hsc
 obtain ⟨s1,s2,s3,s4⟩:=VD.same
 obtain ⟨n1,n2,n3⟩:=VD.nd hnd
 have abe:=VD.ok Ru
 obtain ⟨e3,OH,OI⟩:=BC L' abe
 rw [s3 abc] at OI
 have hcm:Cm id (Ld N) (Ld (yH N l)) [] [] L L':=VD.cm RE [] [] (Ld N) Y6 (fun x hx=>Or.inr hx) hnd (fun x hx=>⟨by simp,OE hin x hx⟩) (fun x hx=>by
  rcases hx with hx | hx
  ·simp at hx
  ·exact Or.inr (Er x hx)) (fun x hx=>Es hin x (n3 x hx) hx) (fun x hx=>⟨by simp,OE (AV hin n2) x hx⟩)
 have VE:WT [] e3 (tr t):=gW e3 (by rw [OI];exact hcm.wt RE)
 have KJ:mw [] e3 _:=fR e3 (by rw [OI];exact VD.wtr abb)
 have SV:cC e3=(0,0):=Ge VE (by rw [<- tZ,OI,s1];exact Y8)
 have abf:cg (Ld (yH N l)) e3:=AR e3 _ (by rw [OI];exact VD.closed Y6 (fun x hx=>Er x hx) (fun x hx=>Es hin x (n3 x hx) hx))
 have Y9:e3.kH=L'.kH:=by rw [<- Ow e3,OI]
 have hP9:(bs L.tidy).size<=9000:=by rw [cN];exact zu
 have hQ9:(bs L'.tidy).size<=9000:=by rw [cN];omega
 have hPd:(bs L.tidy).data.toList=L.tidy:=by simp [bs]
 have hQd:(bs L'.tidy).data.toList=L'.tidy:=by simp [bs]
 have abg:∀ f,ev f e3.era [] ⟨0,0,0⟩=ev f (x.pt []) [] ⟨0,0,0⟩:=fun f=>by
  rw [<- lV,BQ,OI,hcm.SR f,<- he2,<- BQ,lV,Y5]
 have hrg2:=vT e2 (RD.bL (eJ _)).1 (RD.vg (pI _)).1
 have Ze:=vT e3 (OH.bL (eJ _)).1 (OH.vg (pI _)).1
 have hU:(tr t).size<=63:=by have:=sX t;omega
 obtain ⟨v,E,cQ,Vy,hRu⟩:=mL (bs L.tidy) hP9 e2 _ (by rw [hPd];exact RD) Y4 Om hU 20000 (by omega)
 obtain ⟨v',E',Et,RF,abh⟩:=mL (bs L'.tidy) hQ9 e3 _ (by rw [hQd];exact OH) SV VE hU 20000 (by omega)
 have hf2:=OD (f:=20000) Om hwr hrg2
 have hf3:=OD (f:=20000) VE KJ Ze
 have jL:∀ (h2:(mW 20000 e2 [] 0 ((m0 e2.cnt).opn (-1))).2.fault=0) (h3:(mW 20000 e3 [] 0 ((m0 e3.cnt).opn (-1))).2.fault=0),(mW 20000 e2 [] 0 ((m0 e2.cnt).opn (-1))).2.most<=(mW 20000 e3 [] 0 ((m0 e3.cnt).opn (-1))).2.most/\(mW 20000 e2 [] 0 ((m0 e2.cnt).opn (-1))).2.live<=(mW 20000 e3 [] 0 ((m0 e3.cnt).opn (-1))).2.live:=fun h2 h3=>by
  have r2:L.jr:=by rw [<- he2];exact Ca e2 hrg2
  have r3:L'.jr:=by rw [<- OI];exact Ca e3 Ze
  have c2:L.cnt=e2.cnt:=by rw [<- he2,nD]
  have c3:L'.cnt=e3.cnt:=by rw [<- OI,nD]
  have m2:mW 20000 L=mW 20000 e2:=by rw [<- he2,lY]
  have m3:mW 20000 L'=mW 20000 e3:=by rw [<- OI,lY]
  have:=hcm.counts 20000 RE r2 r3 (by rw [m2,c2];exact h2) (by rw [m3,c3];exact h3)
  rw [m2,c2,m3,c3] at this
  exact this
 rw [Y5] at cQ hf2
 rw [abg] at Et hf3
 refine ⟨bs L.tidy,bs L'.tidy,hP9,by rw [hPd,hQd];exact hsc,Y3,B0 (bs L'.tidy) hQ9 e3 (by rw [hQd];exact OH) SV (0,0) (fun ms lo hi bt hpo=>OB KJ (by rw [Y9];exact n1) (by rw [Y9];exact AV hin n2) abf bt hpo),fun w htab=>?_,v,v',E,?_,hRu,?_⟩
 ·have:=zy (bs L'.tidy) w hQ9 htab e3 (by rw [hQd];exact OH)
  rw [<- BS,OI,s2,abd,<- hsrc] at this
  exact this
 ·rcases cQ with ⟨g,_⟩ | ⟨g1,g2,g3⟩ | ⟨g1,g2,g3⟩
  ·exact absurd g (Vy _ hwr)
  ·rcases Et with ⟨k,_⟩ | ⟨k1,k2,k3⟩ | ⟨k1,k2,k3⟩
   ·exact absurd k (RF _ KJ)
   ·exact Or.inl ⟨g1,g2,g3,k3⟩
   ·rw [k1] at g1;cases g1
  ·rcases Et with ⟨k,_⟩ | ⟨k1,k2,k3⟩ | ⟨k1,k2,k3⟩
   ·exact absurd k (RF _ KJ)
   ·rw [k1] at g1;cases g1
   ·obtain ⟨q1,q2⟩:=jL (hf2 g1) (hf3 g1)
    exact Or.inr ⟨g1,g2,_,_,_,_,g3,k3,q1,q2⟩
 ·have hEE:E'=E:=by
   rcases cQ with ⟨g,_⟩ | ⟨g1,g2,_⟩ | ⟨g1,g2,_⟩
   ·exact absurd g (Vy _ hwr)
   ·rcases Et with ⟨k,_⟩ | ⟨k1,k2,_⟩ | ⟨k1,k2,_⟩
    ·exact absurd k (RF _ KJ)
    ·rw [g2,k2]
    ·rw [k1] at g1;cases g1
   ·rcases Et with ⟨k,_⟩ | ⟨k1,k2,_⟩ | ⟨k1,k2,_⟩
    ·exact absurd k (RF _ KJ)
    ·rw [k1] at g1;cases g1
    ·rw [g2,k2]
  rw [<- hEE];exact abh
theorem th {S:ByteArray} {k:Nat} {c:UInt8} (hk:k < S.size) (h:S.data.toList[k]?=some c):S[k]=c:=by
 rw [List.getElem?_eq_getElem (by simpa using hk)] at h
 exact Option.some.inj h
theorem IX (S:ByteArray):S.size=S.data.toList.length:=by rw [Array.length_toList];rfl
theorem vU (S:ByteArray) (a b:Nat) (h:a<=b):S.extract a b=bs ((S.data.toList.drop a).take (b - a)):=by
 apply ByteArray.ext
 apply Array.ext'
 have:=Li S a (b - a)
 rw [show a+(b - a)=b by omega] at this
 rw [this];simp [bs]
theorem GH (w:World) (S:ByteArray) (hs:S.size<=9000) (at_:Nat) (hat:at_<=S.size) :
  Calls Tryz.prog 33 #[.string S,.int .i64 at_,.string ⟨#[40,110,101,119,32,35]⟩] w fun e w'=>e=.returned (.bool (iU.isPrefixOf (S.data.toList.drop at_)))/\w'=w:=by
 have y6:(ByteArray.mk #[40,110,101,119,32,35]).size=6:=rfl
 have hl:=IX S
 by_cases hle:at_+6<=S.size
 ·have hex:=vU S at_ (at_+6) (by omega)
  rw [show at_+6 - at_=6 by omega] at hex
  have hq:(iU.isPrefixOf (S.data.toList.drop at_))=((S.extract at_ (at_+6)).toList == [40,110,101,119,32,35]):=by
   rw [hex]
   have e1:(bs ((S.data.toList.drop at_).take 6)).toList=(S.data.toList.drop at_).take 6:=by simp [bs,ByteArray.toList_eq]
   rw [e1]
   have hl2:6<=(S.data.toList.drop at_).length:=by rw [List.length_drop];omega
   generalize S.data.toList.drop at_=l at hl2
   match l,hl2 with
   | a::b::c::d::e::f::r,_ =>
    simp only [iU,List.isPrefixOf,List.take_succ_cons,List.take_zero,Bool.and_true]
    have hc:∀ x y:UInt8,(x == y)=(y == x):=fun x y=>by
     by_cases h:x=y
     ·simp [h]
     ·rw [beq_eq_false_iff_ne.2 h,beq_eq_false_iff_ne.2 (Ne.symm h)]
    rw [hc 40 a,hc 110 b,hc 101 c,hc 119 d,hc 32 e,hc 35 f]
    simp only [List.cons_beq_cons,List.nil_beq_eq,List.isEmpty_nil,Bool.and_true]
  rw [hq]
  clear hq hex hl
  go_enter Tryz.func33,Tryz.ntmps33
  go_wp2
  go_ret
  exact ⟨rfl,by first | rfl | trivial⟩
 ·have hq:(iU.isPrefixOf (S.data.toList.drop at_))=false:=by
   cases hc:iU.isPrefixOf (S.data.toList.drop at_) with
   | false=>rfl
   | true =>
    have:=(List.isPrefixOf_iff_prefix.1 hc).length_le
    rw [List.length_drop] at this
    simp only [iU,List.length_cons,List.length_nil] at this
    omega
  rw [hq]
  clear hq hl
  go_enter Tryz.func33,Tryz.ntmps33
  go_wp2
  go_ret
  exact ⟨rfl,by first | rfl | trivial⟩
theorem Eu (w:World) (S:ByteArray) (hs:S.size<=9000) (pre mid post:List UInt8) (hS:S.data.toList=pre++(40::(mid++(41::post)))) (hb:Cp 0 mid=some 0) :
  Calls Tryz.prog 35 #[.string S,.int .i64 pre.length] w fun e w'=>e=.returned (.int .i64 (pre.length+1+mid.length:Nat))/\w'=w:=by
 have hl:=IX S
 have hsz:S.size=pre.length+1+mid.length+1+post.length:=by
  rw [hl,hS];simp only [List.length_append,List.length_cons];omega
 have K8:∀ h:pre.length < S.size,S[pre.length]=40:=fun h=>th h (by rw [hS,List.getElem?_append_right (Nat.le_refl _),Nat.sub_self];rfl)
 have Zf:∀ (j:Nat) (hj:j < mid.length) (h:pre.length+1+j < S.size),S[pre.length+1+j]=mid[j]:=fun j hj h=>th h (by
  rw [hS,List.getElem?_append_right (by omega),show pre.length+1+j - pre.length=j+1 by omega,List.getElem?_cons_succ,List.getElem?_append_left hj,List.getElem?_eq_getElem hj])
 have K9:∀ h:pre.length+1+mid.length < S.size,S[pre.length+1+mid.length]=41:=fun h=>th h (by
  rw [hS,List.getElem?_append_right (by omega),show pre.length+1+mid.length - pre.length=mid.length+1 by omega,List.getElem?_cons_succ,List.getElem?_append_right (Nat.le_refl _),Nat.sub_self];rfl)
 have Pg:Hid _:=K8
 have Zg:Hid _:=Zf
 have Sm:Hid _:=K9
 have WE:Hid _:=hb
 obtain ⟨P,hP⟩:∃ P,P=pre.length:=⟨_,rfl⟩
 rw [<- hP] at hsz Pg Zg Sm ⊢
 clear K8 Zf K9 hb hS hl hP
 go_enter Tryz.func35,Tryz.ntmps35
 go_wp2
 go_loopw [5,6] (fun o i wr=>wr=w/\((o=.int .i64 0/\i=.int .i64 P)\/∃ (j d p:Nat),j<=mid.length/\p=P+1+j/\d<=j/\i=.int .i64 p/\o=.int .i64 (d+1:Nat)/\Cp d (mid.drop j)=some 0)) (fun _ i _=>P+2+mid.length - (intOf i).toNat)
 case atStart=>exact ⟨by first | rfl | trivial,Or.inl ⟨rfl,rfl⟩⟩
 case round =>
  obtain ⟨rfl,hrel⟩:=hrel
  rcases hrel with ⟨rfl,rfl⟩ | ⟨j,d,p,hj,hp,hd,rfl,rfl,hbk⟩
  ·have hlt:P < S.size:=by omega
   have q40:((S[P].toNat:Int) == 40)=true:=by rw [Pg.out hlt];rfl
   go_wp2
   go_roundw
   case rel=>exact ⟨by first | rfl | trivial,Or.inr ⟨0,0,P+1,Nat.zero_le _,rfl,Nat.le_refl _,by go_num,rfl,by rw [List.drop_zero];exact WE.out⟩⟩
   case measure=>simp [intOf];omega
  ·have hlt:p < S.size:=by omega
   have HP:Hid _:=hp
   by_cases hjl:j < mid.length
   ·have hc:S[p]=mid[j]:=by subst hp;exact Zg.out j hjl hlt
    clear hp
    rw [List.drop_eq_getElem_cons hjl,<- hc] at hbk
    simp only [Cp] at hbk
    by_cases VF:S[p]=40
    ·rw [if_pos VF] at hbk
     have q40:((S[p].toNat:Int) == 40)=true:=by rw [VF];rfl
     have HQ:Hid _:=hbk
     clear hbk hc VF
     go_wp2
     go_roundw
     case rel=>exact ⟨by first | rfl | trivial,Or.inr ⟨j+1,d+1,p+1,by omega,by have:=HP.out;omega,by omega,by go_num,by go_num,HQ.out⟩⟩
     case measure=>have:=HP.out;simp [intOf];omega
    ·rw [if_neg VF] at hbk
     have q40:((S[p].toNat:Int) == 40)=false:=by rw [show ((S[p].toNat:Int) == 40)=(S[p] == 40) from j4 _ 40];simpa using VF
     by_cases Wv:S[p]=41
     ·rw [if_pos Wv] at hbk
      have q41:((S[p].toNat:Int) == 41)=true:=by rw [Wv];rfl
      have hd0:d≠0:=fun e=>by rw [if_pos e] at hbk;cases hbk
      rw [if_neg hd0] at hbk
      obtain ⟨d',rfl⟩:∃ d',d=d'+1:=⟨d - 1,by omega⟩
      rw [Nat.add_sub_cancel] at hbk
      have HQ:Hid _:=hbk
      have qz:((((d'+1+1:Nat):Int) - 1) == 0)=false:=by rw [beq_eq_false_iff_ne];omega
      clear hbk hc VF Wv hd0
      go_wp2
      go_roundw
      case rel=>exact ⟨by first | rfl | trivial,Or.inr ⟨j+1,d',p+1,by omega,by have:=HP.out;omega,by omega,by go_num,by go_num,HQ.out⟩⟩
      case measure=>have:=HP.out;simp [intOf];omega
     ·rw [if_neg Wv] at hbk
      have q41:((S[p].toNat:Int) == 41)=false:=by rw [show ((S[p].toNat:Int) == 41)=(S[p] == 41) from j4 _ 41];simpa using Wv
      have HQ:Hid _:=hbk
      clear hbk hc VF Wv
      go_wp2
      go_roundw
      case rel=>exact ⟨by first | rfl | trivial,Or.inr ⟨j+1,d,p+1,by omega,by have:=HP.out;omega,by omega,by go_num,by go_num,HQ.out⟩⟩
      case measure=>have:=HP.out;simp [intOf];omega
   ·have zO:j=mid.length:=by omega
    have hc:S[p]=41:=by subst hp;subst zO;exact Sm.out hlt
    have hd0:d=0:=by
     rw [List.drop_eq_nil_of_le (by omega)] at hbk
     simpa [Cp] using hbk
    subst hd0
    have q40:((S[p].toNat:Int) == 40)=false:=by rw [hc];rfl
    have q41:((S[p].toNat:Int) == 41)=true:=by rw [hc];rfl
    have HPE:Hid (p=P+1+mid.length):=by show p=_;omega
    clear hbk hc hp
    go_wp2
    go_ret
    exact ⟨by show Ending.returned (Value.int IntKind.i64 ((p:Nat):Int))=_;rw [HPE.out],by first | rfl | trivial⟩
def Cb:Value->Nat
 | .string s=>s.size
 | _=>0
theorem GI (w:World) (S Q:ByteArray) (hs:S.size<=9000) (rv:Value) (raw:List Int) (h:qy w rv raw) (hsc:BZ raw S.data.toList ⟨0,0,[]⟩ Q.data.toList) :
  Calls Tryz.prog 17 #[.string S,rv] w fun e w'=>e=.returned (.string Q)/\Below w.heap.size w w':=by
 obtain ⟨ra,rn,rc,rfl⟩:∃ ra rn rc,rv=.slice ra rn rc:=by
  rcases h.2 with ⟨h1,_⟩ | ⟨a,cap,h1,_,_⟩
  ·exact ⟨_,_,_,h1⟩
  ·exact ⟨_,_,_,h1⟩
 have yU:ee w (w.alloc (.cells (lS (.slice ra rn rc) ⟨0,0,[]⟩ (.slice none 0 0)) 49 (0,0))) w.heap.size (.slice ra rn rc) raw ⟨0,0,[]⟩ (.slice none 0 0):=by
  refine ⟨h,⟨bf (Below.refl _ w) _,Nat.le_refl _,aj _ _,World.ownsRow_nil _ _ _ _,by simp [Value.ownBlock]⟩⟩
 have HOB:Hid _:=yU
 have SW:Hid _:=hsc
 clear yU h hsc
 go_enter Tryz.func17,Tryz.ntmps17
 go_wp2
 go_loopw [0,6] (fun v i wr=>∃ (pre rest out:List UInt8) (c:jg) (X:ByteArray) (p:Nat),v=.string X/\i=.int .i64 p/\p=pre.length/\X.data.toList=pre++rest/\BZ raw rest c out/\pre++out=Q.data.toList/\X.size<=9000/\c.at_+rest.length<=9000/\ee w wr w.heap.size (.slice ra rn rc) raw c (.slice none 0 0)) (fun v i _=>Cb v - (intOf i).toNat)
 case atStart=>exact ⟨[],S.data.toList,Q.data.toList,⟨0,0,[]⟩,S,0,rfl,rfl,rfl,rfl,SW.out,rfl,hs,by have:=IX S;simp only;omega,HOB.out⟩
 case round =>
  obtain ⟨pre,rest,out,c,X,p,rfl,rfl,hp,hX,hsc,hout,Po,tD,hmk⟩:=hrel
  clear HOB SW hs
  have Le:=IX X
  rw [hX,List.length_append] at Le
  have HP:Hid _:=hp
  have ml:X.data.toList.drop p=rest:=by rw [hX,hp,List.drop_left]
  have hbe:=fun w=>GH w X Po p (by omega)
  rw [ml] at hbe
  cases hsc with
  | nil =>
   have hps:p=X.size:=by simp at Le;omega
   have hXQ:X=Q:=by
    apply ByteArray.ext
    apply Array.ext'
    rw [hX,<- hout]
   subst hXQ
   have HB:Hid _:=hmk.ob.b0
   have kN:¬ p < X.size:=by omega
   clear hmk hbe ml hX hout hp Le hps
   go_wp2
   go_ret
   exact ⟨rfl,HB.out⟩
  | @pass b r out c tu hsc =>
   have Pw:iU.isPrefixOf (b::r)=false:=by
    cases hc:iU.isPrefixOf (b::r) with
    | false=>rfl
    | true=>exact absurd (List.isPrefixOf_iff_prefix.1 hc) tu
   rw [Pw] at hbe
   simp only [List.length_cons] at Le tD
   have hlt:p < X.size:=by omega
   have Pa:Hid _:=hbe
   have SE:Hid _:=hmk
   have SW:Hid _:=hsc
   have HX:Hid _:=hX
   have HO:Hid _:=hout
   have Zh:Hid _:=Le
   clear hbe hmk hsc hX hout ml Pw hp Le
   go_wp2_with fail
   refine Calls.mono (Pa.out _) ?_
   rintro _ _ ⟨rfl,rfl⟩
   go_wp2
   go_roundw
   case rel=>exact ⟨pre++[b],r,out,c,X,p+1,rfl,by go_num,by have:=HP.out;simp;omega,by rw [HX.out];simp,SW.out,by rw [<- HO.out];simp,Po,by omega,SE.out⟩
   case measure=>simp [intOf,Cb];omega
  | @keep b r out c Pw hk hsc =>
   have Pw:iU.isPrefixOf (b::r)=true:=List.isPrefixOf_iff_prefix.2 Pw
   rw [Pw] at hbe
   simp only [List.length_cons] at Le tD
   have hlt:p < X.size:=by omega
   have iH:=cX 2 (by omega) (by omega) hmk (by omega)
   rw [hk] at iH
   have hat:(aL raw 2 c).2.at_<=c.at_+1:=by unfold aL;split <;> simp
   generalize (aL raw 2 c).2=c' at iH hat hsc
   have Pa:Hid _:=hbe
   have nu:Hid _:=iH
   have SW:Hid _:=hsc
   have HX:Hid _:=hX
   have HO:Hid _:=hout
   have Zh:Hid _:=Le
   clear hbe iH hmk hsc hX hout ml Pw hk hp Le
   go_wp2_with fail
   refine Calls.mono (Pa.out _) ?_
   rintro _ _ ⟨rfl,rfl⟩
   go_wp2_with fail
   refine Calls.mono nu.out ?_
   rintro _ w2 ⟨rfl,_,hm2⟩
   have o9:Hid _:=hm2
   clear hm2 nu Pa
   go_wp2
   go_roundw
   case rel=>exact ⟨pre++[b],r,out,c',X,p+1,rfl,by go_num,by have:=HP.out;simp;omega,by rw [HX.out];simp,SW.out,by rw [<- HO.out];simp,Po,by omega,o9.out⟩
   case measure=>simp [intOf,Cb];omega
  | @lift d body post out c hk hd hb hsc =>
   have Pw:iU.isPrefixOf (iU++(d++(32::(body++(41::post)))))=true:=List.isPrefixOf_iff_prefix.2 (List.prefix_append _ _)
   rw [Pw] at hbe
   have VG:iU.length=6:=rfl
   simp only [List.length_append,List.length_cons,VG] at Le tD
   have hlt:p < X.size:=by omega
   have iH:=cX 2 (by omega) (by omega) hmk (by omega)
   have hat:(aL raw 2 c).2.at_<=c.at_+1:=by unfold aL;split <;> simp
   have hk1:(aL raw 2 c).1=1:=by have:=cI raw 2 c (by omega);omega
   rw [hk1] at iH
   generalize (aL raw 2 c).2=c' at iH hat hsc
   have RH:=fun w=>Eu w X Po pre ([110,101,119,32,35]++(d++(32::body))) post (by rw [hX];simp [iU]) (by
    rw [lB _ _ (by decide),lB _ _ (fun x hx=>⟨(hd x hx).1,(hd x hx).2.1⟩)]
    simp only [Cp,show ¬ (32:UInt8)=40 by decide,show ¬ (32:UInt8)=41 by decide,if_false]
    exact hb)
   rw [<- hp] at RH
   obtain ⟨C,hC⟩:∃ C,C=p+1+([110,101,119,32,35]++(d++(32::body))).length:=⟨_,rfl⟩
   rw [<- hC] at RH
   simp only [List.length_append,List.length_cons,List.length_nil] at hC
   have Zi:∀ (j:Nat) (hj:j < d.length) (h:p+6+j < X.size),X[p+6+j]=d[j]:=fun j hj h=>th h (by
    rw [hX,hp,List.getElem?_append_right (by omega),show pre.length+6+j - pre.length=6+j by omega,List.getElem?_append_right (by rw [VG];omega),VG,show 6+j - 6=j by omega,List.getElem?_append_left hj,List.getElem?_eq_getElem hj])
   have h32:∀ h:p+6+d.length < X.size,X[p+6+d.length]=32:=fun h=>th h (by
    rw [hX,hp,List.getElem?_append_right (by omega),show pre.length+6+d.length - pre.length=6+d.length by omega,List.getElem?_append_right (by rw [VG];omega),VG,show 6+d.length - 6=d.length by omega,List.getElem?_append_right (Nat.le_refl _),Nat.sub_self];rfl)
   have e1:X.extract 0 p=bs pre:=by
    rw [vU X 0 p (by omega),List.drop_zero,hX,hp,Nat.sub_zero,List.take_left]
   have e2:X.extract (p+6+d.length+1) C=bs body:=by
    rw [vU X _ _ (by omega),hX]
    have:pre++(iU++(d++32::(body++41::post)))=(pre++(iU++(d++[32])))++(body++41::post):=by simp
    rw [this,List.drop_left' (by simp [VG];omega),List.take_left' (by omega)]
   have e3:X.extract (C+1) X.size=bs post:=by
    rw [vU X _ _ (by omega),hX]
    have:pre++(iU++(d++32::(body++41::post)))=(pre++(iU++(d++(32::(body++[41])))))++post:=by simp
    rw [this,List.drop_left' (by simp [VG];omega),List.take_of_length_le (by omega)]
   have Pa:Hid _:=hbe
   have nu:Hid _:=iH
   have SW:Hid _:=hsc
   have HO:Hid _:=hout
   have HCL:Hid _:=RH
   have HDA:Hid _:=Zi
   have H32:Hid _:=h32
   have HD:Hid _:=hd
   have HE1:Hid _:=e1
   have TQ:Hid _:=e2
   have HE3:Hid _:=e3
   have Zh:Hid _:=Le
   have HC:Hid _:=hC
   have hl1:p+6+d.length < X.size:=by omega
   have hl2:p+6+d.length+1<=C:=by omega
   have hl3:C+1<=X.size:=by omega
   clear hbe iH hmk hsc hX hout ml Pw hk hk1 RH Zi h32 hd hb e1 e2 e3 hp Le hC
   go_wp2_with fail
   refine Calls.mono (Pa.out _) ?_
   rintro _ _ ⟨rfl,rfl⟩
   go_wp2_with fail
   refine Calls.mono nu.out ?_
   rintro _ w2 ⟨rfl,_,hm2⟩
   have o9:Hid _:=hm2
   clear hm2 nu Pa
   go_wp2
   go_loopw [9] (fun t wi=>∃ (j u:Nat),wi=w2/\j<=d.length/\u=p+6+j/\t=.int .i64 u) (fun t _=>p+7+d.length - (intOf t).toNat)
   case atStart=>exact ⟨0,p+6,rfl,Nat.zero_le _,rfl,by go_num⟩
   case round =>
    obtain ⟨j,u,rfl,hj,hu,rfl⟩:=hrel
    have hul:u < X.size:=by omega
    have HU:Hid _:=hu
    by_cases hjl:j < d.length
    ·have q32:((X[u].toNat:Int) != 32)=true:=by
      have h1:X[u]=d[j]:=by subst hu;exact HDA.out j hjl hul
      have h2:=(HD.out d[j] (List.getElem_mem hjl)).2.2
      rw [<- h1] at h2
      rw [show ((X[u].toNat:Int) != 32)=(X[u] != 32) from PB _ 32];simpa using h2
     clear hu
     go_wp2
     go_roundw
     case rel=>exact ⟨j+1,u+1,by first | rfl | trivial,by omega,by have:=HU.out;omega,by go_num⟩
     case measure=>have:=HU.out;simp [intOf];omega
    ·have zO:j=d.length:=by omega
     have q32:((X[u].toNat:Int) != 32)=false:=by
      have h1:X[u]=32:=by subst hu;subst zO;exact H32.out hul
      rw [h1];rfl
     have HUE:Hid (u=p+6+d.length):=by show u=_;omega
     have e2:=TQ.out
     rw [<- HUE.out] at e2 hl2
     have e1:=HE1.out
     have e3:=HE3.out
     have z1:(bs pre).size<=9000:=by have:=HP.out;rw [cN];omega
     have z2:(bs body).size<=9000:=by have:=HC.out;rw [cN];omega
     have z3:(bs post).size<=9000:=by have:=Zh.out;rw [cN];omega
     clear hu
     go_wp2_with fail
     refine Calls.mono (HCL.out _) ?_
     rintro _ _ ⟨rfl,rfl⟩
     go_wp2
     go_region
     go_wp2
     go_roundw
     case rel =>
      refine ⟨pre,body++post,out,c',bs (pre++(body++post)),p,?_,by go_num,HP.out,by simp [bs],SW.out,HO.out,?_,?_,o9.out.grow (o8 (Below.refl _ _))⟩
      ·rw [<- eB,<- eB];first | rfl | (simp [ByteArray.append_assoc])
      ·have:=Zh.out;rw [cN];simp only [List.length_append];omega
      ·simp only [List.length_append];omega
     case measure=>have:=Zh.out;have:=HC.out;have:=HP.out;simp [intOf,Cb,cN];omega
end Go.Proofs.YtpicaknklgccoabGreatDoor
