import Derived.Test.YtpicaknklgccoaaGreatDoorK6
set_option maxHeartbeats 8000000
set_option maxRecDepth 100000
namespace Go.Proofs.YtpicaknklgccoaaGreatDoor
open Tryz
open Go.RowKit
variable {w a d:Nat}{b:List UInt8}{x v P:RS}{y:Tk}{z:Kw}{u:gH}{K:World}{L:List Ty}{T:dc}
def BI(cls:List Nat)(p:Nat)(d:List UInt8)(b:List PT)(id a:Nat)(c:dc)(f:gH):Ty×gH:=
 if (df cls d b (id+1) a c f).2.e≠0 then (.n,(df cls d b (id+1) a c f).2)
 else dz cls .loop p a (df cls d b (id+1) a c f).1 (df cls d b (id+1) a c f).2
theorem wQ{b wr k}{cls}{B M N m o p f i}{r}(C:∀g,B.ownBlock=some g->g<a)(D:∀g,m.ownBlock=some g->g<a)(Q:w<a)(O:b.heap.size=a)(E:K.heap.size<=a)(F:Fr b wr w M N m o p)(G:a<wr.heap.size)(s:o.ownBlock≠some a)(v:p.ownBlock≠some a)(c:Fr wr k w o p m f i)(x:ja K k w cls B f i m T u)(H:wr.heap[a]?=some (.cells (x9 L) 139 (0,0)))(I:L.length=d):f.ownBlock≠some a/\i.ownBlock≠some a/\k.heap[a]?=some (.cells (x9 L) 139 (0,0))/\ja K (k.setCell ⟨a,d,none⟩ (.string (bs r.txt))) w cls B f i m T u/\Fr b (k.setCell ⟨a,d,none⟩ (.string (bs r.txt))) w M N m f i/\(k.setCell ⟨a,d,none⟩ (.string (bs r.txt))).heap[a]?=some (.cells (x9 (L++[r])) 139 (0,0))/\a<k.heap.size:=by
 have P:=c.size;have y:f.ownBlock≠some a:=by
  intro e;rcases c.n _ e with e|e
  ·exact s e
  ·omega
 have z:i.ownBlock≠some a:=by
  intro e;rcases c.t _ e with e|e
  ·exact v e
  ·omega
 have A:m.ownBlock≠some a:=λe=>by have:=D _ e;omega
 have J:B.ownBlock≠some a:=λe=>by have:=C _ e;omega
 have l:k.heap[a]?=some (.cells (x9 L) 139 (0,0)):=by
  rw[c.blk _ G (by omega) s v A];exact H
 refine⟨y,z,l,ja.other x E (by omega) J y z A rfl,?_,?_,by omega⟩
 ·have h:=F.trans c;refine⟨by have:=h.size;simp[World.setCell];exact this,?_,h.n,h.t⟩;intro q R S U V W;rw[cX _ _ (by simp only;omega)];exact h.blk q R S U V W
 ·have h:=bu l d (.string (bs r.txt));rw[<-Eo,I];exact h
theorem OH{cls}(p:Nat)(G rg)(k s I)(hit:Ek K cls)(GR:cls.length<=9000)(hf1:sZ K w cls k)(hf2:sZ K w cls s)(hf3:sZ K w cls I):zj K w cls (.node p .loop G rg [k,s,I]) (λid d f Y=>BI cls p G [k,s,I] id d f Y):=by
 intro id d b F f Y cv nv tv M a hT l hid Xa hs1 hs2 wN;simp only[gS]at hT;obtain⟨hFb,kv,bl,N,hF,GV,hts⟩:=hT;have hb:=aG N;have hw0:=l.b0.size;have sY:b<a.heap.size:=by omega
 have hne:b≠w:=by have:=l.hyb;omega
 obtain⟨u,kc,hvk⟩:∃u kc,kv=.slice (some ⟨u,0,none⟩) 3 kc:=by
  rcases GV.2 with⟨_,h'⟩|⟨g,cap,cur,h,_⟩
  ·simp at h'
  ·exact⟨_,_,h⟩
 subst hvk;obtain⟨b1,hb1,rA⟩:=fZ.at _ _ _ _ hts 0 k rfl;obtain⟨b2,hb2,s6⟩:=fZ.at _ _ _ _ hts 1 s rfl;obtain⟨b3,hb3,Z⟩:=fZ.at _ _ _ _ hts 2 I rfl;have k1:K.cell? ⟨u,0,none⟩=some (ptr b1):=by rw[GV.cellAt 0 (by simp)];simp[hb1]
 have k2:K.cell? ⟨u,1,none⟩=some (ptr b2):=by rw[GV.cellAt 1 (by simp)];simp[hb2]
 have k3:K.cell? ⟨u,2,none⟩=some (ptr b3):=by rw[GV.cellAt 2 (by simp)];simp[hb3]
 have Kv:u<K.heap.size:=aR _ _ k1;have aan:u<a.heap.size:=by omega
 have hbx:a.heap[b]?=some (.cells (dJ Kw.loop.bytes p G (aQ rg) (.slice (some ⟨u,0,none⟩) 3 kc) id (id+aU [k,s,I]) d) 82 (0,0)):=by rw[l.b0.block b hb];exact N
 have x0:a.cell? ⟨b,0,none⟩=some (.string (bs Kw.loop.bytes)):=by rw[aI hbx];rfl
 have x4:a.cell? ⟨b,4,none⟩=some (.slice (some ⟨u,0,none⟩) 3 kc):=by rw[aI hbx];rfl
 have k1w:=(l.b0.cell (p:=⟨u,0,none⟩) Kv).trans k1;have q0:((bs Kw.loop.bytes).toList==[110,117,109,98,101,114])=false:=by rw[bo];decide
 have q1:((bs Kw.loop.bytes).toList==[110,97,109,101])=false:=by rw[bo];decide
 have q2:((bs Kw.loop.bytes).toList==[108,101,116])=false:=by rw[bo];decide
 have q3:((bs Kw.loop.bytes).toList==[108,111,111,112])=true:=by rw[bo];decide
 have hyb:=l.hyb;simp only[PT.cnt,PT.dn,aU,eS]at hid Xa wN;simp only[aU,eS,nL,cY,az]at rA s6 Z;rw[ag (by decide)]at Xa rA s6 Z;simp only[az]at rA s6 Z;rw[<-aY (id+1),<-aY d]at Z;have Q8:=λg hg=>(l.n.lt g hg).2;have Fx:=λg hg=>(l.t.lt g hg).2;have O:=λg hg=>(l.o.lt g hg).2;have P:=λg hg=>(l.c.lt g hg).2;have hyw:=aG l.y;have aap:ja K (a.alloc (.cells (x9 []) 139)) w cls cv nv tv M f Y:=l.grow (fp.alloc bS _);have aaq:Fr a (a.alloc (.cells (x9 []) 139)) w nv tv M nv tv:=Fr.below (fp.alloc bS _) _ _ _ _;have hfo:=hf1 (id+1) d b1 F f Y cv nv tv M _ rA aap (by omega) (by omega) hs1 hs2 (by omega);have W8:lG f Y:=⟨hs1,hs2⟩;have Q:=iD cls hit.1 k (id+1) d f Y W8;obtain⟨z,hR1⟩:∃R,R=aV cls k (id+1) d f Y:=⟨_,rfl⟩;rw[<-hR1]at hfo Q;have B:=W8.on (λS=>(Q.2.1 S).1);have C:=iD cls hit.1 s (id+1+k.cnt) (d+k.dn) f z.2 B;obtain⟨r,hR2⟩:∃R,R=aV cls s (id+1+k.cnt) (d+k.dn) f z.2:=⟨_,rfl⟩;rw[<-hR2]at C;have aar:=B.on (λS=>(C.2.1 S).1);have Q9:=iD cls hit.1 I (id+1+k.cnt+s.cnt) (d+k.dn+s.dn) (f++[(G,r.1)]) r.2 (B.snoc C);obtain⟨i,hR3⟩:∃R,R=aV cls I (id+1+k.cnt+s.cnt) (d+k.dn+s.dn) (f++[(G,r.1)]) r.2:=⟨_,rfl⟩;rw[<-hR3]at Q9;have hfin:BI cls p G [k,s,I] id d f Y=if i.2.e≠0 then (.n,i.2) else dz cls .loop p d [z.1,r.1,i.1] i.2:=by
  subst hR3;subst hR2;subst hR1;rfl
 have BJ:Hid _:=hfin;obtain⟨FF,hFF⟩:=ez (BI cls p G [k,s,I] id d f Y);show Calls _ _ #[Value.pointer (some ⟨w,0,none⟩),Value.pointer (some ⟨b,0,none⟩)] a (λv H=>v=.returned (.string (bs (BI cls p G [k,s,I] id d f Y).1.txt))/\∃m q,Fr a H w nv tv M m q/\ja K H w cls cv m q M f (BI cls p G [k,s,I] id d f Y).2);rw[<-hFF]at BJ⊢;unfold ptr at hfo;refine pd N k2 k3 s6 Z λT Xb HK3 HT2 HT3=>?_;have MB:Hid (Bu Y z):=Q;have HO2:Hid (Bu z.2 r):=C;have AZ:Hid (Bu r.2 i):=Q9;have HE1:Hid (lG f Y):=W8;have HE2:Hid (lG f z.2):=B;have HE3:Hid (lG f r.2):=aar;refine fw hR2 hR3 aaq λOI QB Yk=>?_;clear N l GV hts hbx hFb hF hs1 hs2 k1 k2 k3 rA s6 Z hR1 hR2 hR3 hfin Q C Q9 aap hb1 hb2 hb3 W8 B aar hFF aaq;go_in;go_wp2_with fail;refine hfo.mono ?_;rintro e w2 ⟨rfl,OE,OG,aas,U⟩;obtain⟨J4,Q2,Yl,Hs,Ht,Q5,aes⟩:=wQ (r:=z.1) (L:=[]) (d:=0) P O hyw rfl hw0 Yk (by simp) (λe=>by have:=Q8 _ e;omega) (λe=>by have:=Fx _ e;omega) aas U (bD _ _) rfl;have z0:w2.cell? ⟨a.heap.size,0,none⟩=some (.string (bs [])):=by rw[aI Yl];rfl
 have zf:=aK Yl 0;have Fy:w2.heap[b]?=some (.cells (dJ Kw.loop.bytes p G (aQ rg) (.slice (some ⟨u,0,none⟩) 3 kc) id (id+aU [k,s,I]) d) 82 (0,0)):=by rw[U.b0.block b hb];exact T
 have x42:w2.cell? ⟨b,4,none⟩=some (.slice (some ⟨u,0,none⟩) 3 kc):=by rw[aI Fy];rfl
 have k22:=(U.b0.cell (p:=⟨u,1,none⟩) Kv).trans Xb;have V:=hf2 (id+1+k.cnt) (d+k.dn) b2 F f z.2 cv OE OG M _ HT2 Hs (by have:=MB.2.2;omega) (by omega) HE2.1 HE2.2 (by omega);rw[<-OI.out]at V;unfold ptr at V;have HW2:Hid _:=And.intro Ht (And.intro Q5 (And.intro J4 Q2));have U4:b<w2.heap.size:=by omega
 clear hfo aas U Yl Hs Ht Q5 J4 Q2 Fy x4 k1w x0 q0 q1 q2 q3;go_wp2_with fail;refine V.mono ?_;rintro e w3 ⟨rfl,nv3,DK,DL,X⟩;obtain⟨Xc,ht3,D,Xd,Xe,A,aet⟩:=wQ (r:=r.1) (L:=[z.1]) (d:=1) P O hyw rfl hw0 HW2.1 (by simp[World.setCell];omega) HW2.2.2.1 HW2.2.2.2 DL X HW2.2.1 rfl;have z1:w3.cell? ⟨a.heap.size,1,none⟩=some (.string (bs [])):=by rw[aI D];rfl
 have zf1:=aK D 1;have z2:w3.cell? ⟨a.heap.size,2,none⟩=some (.string (bs [])):=by rw[aI D];rfl
 have zf2:w3.frozen? ⟨a.heap.size,2,none⟩=false:=aK D 2;have OJ:w3.heap[b]?=some (.cells (dJ Kw.loop.bytes p G (aQ rg) (.slice (some ⟨u,0,none⟩) 3 kc) id (id+aU [k,s,I]) d) 82 (0,0)):=by rw[X.b0.block b hb];exact T
 have x23:w3.cell? ⟨b,2,none⟩=some (.string (bs G)):=by rw[aI OJ];rfl
 have x43:w3.cell? ⟨b,4,none⟩=some (.slice (some ⟨u,0,none⟩) 3 kc):=by rw[aI OJ];rfl
 have k33:w3.cell? ⟨u,2,none⟩=some (.pointer (some ⟨b3,0,none⟩)):=(X.b0.cell (p:=⟨u,2,none⟩) Kv).trans HK3
 have hun:∀W,Below (w3.setCell ⟨a.heap.size,1,none⟩ (.string (bs r.1.txt))).heap.size (w3.setCell ⟨a.heap.size,1,none⟩ (.string (bs r.1.txt))) W->Calls prog 143 #[.pointer (some ⟨w,0,none⟩),.string (bs G),.string (bs r.1.txt),.pointer (some ⟨b3,0,none⟩)] W λv H=>v=.returned (.string (bs i.1.txt))/\
   ∃m q,m.ownBlock≠some a.heap.size/\q.ownBlock≠some a.heap.size/\H.heap[a.heap.size]?=some (.cells (x9 [z.1,r.1]) 139 (0,0))/\ja K (H.setCell ⟨a.heap.size,2,none⟩ (.string (bs i.1.txt))) w cls cv m q M f i.2/\
    Fr a (H.setCell ⟨a.heap.size,2,none⟩ (.string (bs i.1.txt))) w nv tv M m q/\(H.setCell ⟨a.heap.size,2,none⟩ (.string (bs i.1.txt))).heap[a.heap.size]?=some (.cells (x9 [z.1,r.1,i.1]) 139 (0,0))/\a.heap.size<H.heap.size/\ja K H w cls cv m q M f i.2:=by
  intro W hW;have hu:=Ho hf3 (id+1+k.cnt+s.cnt) (d+k.dn+s.dn) b3 F f r.2 cv nv3 DK M W G r.1 HT3 (Xd.grow hW) (by have h1:=MB.2.2;have h2:=HO2.2.2;omega) (by omega) HE3.1 HE3.2 HO2.1 (λS=>(HO2.2.1 S).2) (by omega);rw[<-QB.out]at hu;refine hu.mono ?_;rintro e H ⟨rfl,m,q,Q7,U3⟩;have acx:a.heap.size<W.heap.size:=by have h1:=hW.size;have h2:=aG A;omega
  obtain⟨a1,a2,a3,a4,a5,a6,a7⟩:=wQ (r:=i.1) (L:=[z.1,r.1]) (d:=2) P O hyw rfl hw0 (Xe.trans (Fr.below hW w nv3 DK M)) acx Xc ht3 Q7 U3 (by rw[hW.block _ (aG A)];exact A) rfl;exact⟨rfl,m,q,a1,a2,a3,a4,a5,a6,a7,U3⟩
 have aeu:b<w3.heap.size:=by omega
 have aev:u<w3.heap.size:=by omega
 have aew:b≠a.heap.size:=by omega
 have aex:u≠a.heap.size:=by omega
 clear V DL X D Xd Xe A Xc ht3 OJ x42 k22 z0 zf HW2 Q8 Fx O P;go_wp2;go_region_with (go_at_call 143;refine (hun _ ?_).mono ?_;exact⟨rfl,rfl,rfl,bS,λ_ _=>rfl⟩;rintro e w4 ⟨rfl,BK,Ym,hn4,ht4,E,J,L,aat,aey,OK⟩;have z24:w4.cell? ⟨a.heap.size,2,none⟩=some (.string (bs [])):=(by rw[aI E];rfl);have aez:w4.frozen? ⟨a.heap.size,2,none⟩=false:=aK E 2)
 all_goals
  have acy:w4.heap[b]?=some (.cells (dJ Kw.loop.bytes p G (aQ rg) (.slice (some ⟨u,0,none⟩) 3 kc) id (id+aU [k,s,I]) d) 82 (0,0)):=by rw[OK.b0.block b hb];exact T
  have y44:w4.cell? ⟨w,4,none⟩=some (.int .i64 (i.2.e:Nat)):=by rw[aI OK.y];rfl
  have a0:w4.cell? ⟨a.heap.size,0,none⟩=some (.string (bs z.1.txt)):=by rw[aI E];rfl
  have a1:w4.cell? ⟨a.heap.size,1,none⟩=some (.string (bs r.1.txt)):=by rw[aI E];rfl
  have aeA:w≠a.heap.size:=by omega
  have hmd:i.2.e=0->∀W,Below (w4.setCell ⟨a.heap.size,2,none⟩ (.string (bs i.1.txt))).heap.size (w4.setCell ⟨a.heap.size,2,none⟩ (.string (bs i.1.txt))) W->Calls prog 144 #[.pointer (some ⟨w,0,none⟩),.pointer (some ⟨b,0,none⟩),.agg #[.string (bs z.1.txt),.string (bs r.1.txt),.string (bs i.1.txt)]] W λv H=>
    v=.returned (.string (bs (dz cls .loop p d [z.1,r.1,i.1] i.2).1.txt))/\∃m q,Fr a H w nv tv M m q/\ja K H w cls cv m q M f (dz cls .loop p d [z.1,r.1,i.1] i.2).2:=by
   intro S W hW;have hWi:=J.grow hW;have hm:=Hr W w b cls cv BK Ym M _ i.2 G p (aQ rg) id (id+aU [k,s,I]) d K.heap.size .loop [z.1,r.1,i.1] hne S hWi.y (by rw[hWi.b0.block b hb];exact T) hWi.c GR hit.1 (λx hx H hb=>hit.2 x hx H (hWi.b0.trans (hb.mono hWi.b0.size))) (by intro h;cases h) (by decide) rfl
    (by intro t ht;simp only[bf,fA,lC]at ht;rcases ht with rfl|rfl|rfl;exact MB.1;exact HO2.1;exact AZ.1)
   refine hm.mono ?_;rintro e H ⟨rfl,Ov,Uq⟩;refine⟨rfl,BK,Ym,(L.trans (Fr.below hW _ _ _ _)).trans (Fr.grown Ov _ _ _),?_⟩;have h:=hWi.err Ov Uq;rw[<-BG cls .loop p d [z.1,r.1,i.1] i.2]at h;exact h
  have Us:Hid _:=And.intro L J;clear J L aat E OK acy hn4 ht4;by_cases S:i.2.e=0
  ·have acz:=hmd S;have y40:w4.cell? ⟨w,4,none⟩=some (.int .i64 0):=by rw[y44,S];rfl
   have yS:Hid (FF=dz cls .loop p d [z.1,r.1,i.1] i.2):=by rw[BJ.out,ag (by simpa using S)];rfl
   clear y44 S hmd;go_wp2_with (go_at_call 144;refine (acz _ ?_).mono ?_;exact⟨rfl,rfl,rfl,bS,λ_ _=>rfl⟩;rintro e w5 ⟨rfl,U5⟩);go_ret;rw[yS.out];exact⟨rfl,U5⟩
  ·have h0':((i.2.e:Int) !=0)=true:=by rw[bne_iff_ne];omega
   have yS:Hid (FF=(.n,i.2)):=by rw[BJ.out,ah S];rfl
   clear S hmd;go_wp2_with fail;go_ret;rw[yS.out];exact⟨rfl,BK,Ym,Us.1.trans (Fr.below ⟨rfl,rfl,rfl,bS,λ_ _=>rfl⟩ _ _ _ _),Us.2.grow ⟨rfl,rfl,rfl,bS,λ_ _=>rfl⟩⟩
theorem pz:∀(f p:Nat)(l:List UInt8)(t:Tk),t∈toks f p l->∃a,a≠[]/\t.s=a.take (bX a).1/\t.c=(bX a).2
 |0,_,_,t,h=>by simp[toks]at h
 |_+1,_,[],t,h=>by simp[toks]at h
 |f+1,p,c::r,t,h=>by
  simp[toks]at h;split at h
  ·exact pz f _ r t h
  ·rcases bf.1 h with h|h
   ·subst h;exact⟨c::r,by simp,rfl,rfl⟩
   ·exact pz f _ _ t h
theorem Hu(h:(bX b).2=.num):(bX b).1<=4:=by
 unfold bX at h⊢;split at h
 ·rename_i h1;simp[js]at h;split at h
  ·cases h
  ·split at h<;>cases h
 ·rename_i h1;split at h
  ·rename_i h2;rw[ag h1,ah h2];split at h
   ·rename_i h3;unfold fk at h3;simp only[cu,bW]at h3;have:=h3.1.2;have a:=pQ 48 57 b;simp at this;omega
   ·cases h
  ·rename_i h2;split at h
   ·cases h
   ·split at h
    ·simp only at h;split at h<;>cases h
    ·simp only at h;split at h
     ·cases h
     ·split at h<;>cases h
theorem Hv(h:(bX b).2=.uj):(bX b).1<=4:=by
 unfold bX at h⊢;split at h
 ·rename_i h1;simp[js]at h;split at h
  ·cases h
  ·split at h<;>cases h
 ·rename_i h1;rw[ag h1];split at h
  ·simp only at h;split at h<;>cases h
  ·rename_i h2;rw[ag h2];split at h
   ·cases h
   ·rename_i c r;split at h
    ·rename_i h3;rw[ah h3];split at h
     ·rename_i a;unfold fk at a;simp only[cu,bW]at a;have:=a.1.2;simp at this;have d:=pQ 48 57 r;omega
     ·cases h
    ·simp only at h;split at h
     ·cases h
     ·split at h<;>cases h
theorem KA(h:(bX b).2=.kw z):b.take (bX b).1=z.bytes:=by
 unfold bX at h⊢;split at h
 ·rename_i h1;rw[ah h1];simp[js]at h⊢;split at h
  ·rename_i c a;simp[Cl.kw.injEq]at h;subst h;exact r8 a
  ·split at h<;>cases h
 ·split at h
  ·simp only at h;split at h<;>cases h
  ·split at h
   ·cases h
   ·split at h
    ·simp only at h;split at h<;>cases h
    ·simp only at h;split at h
     ·cases h
     ·split at h<;>cases h
theorem Ra{p:Nat}(h:y∈toks w p b)(a:y.c=.num):y.s.length<=5:=by
 obtain⟨d,_,h1,h2⟩:=pz w p b y h;have:=Hu (by rw[<-h2];exact a);rw[h1];simp;omega
theorem Rb{p:Nat}(h:y∈toks w p b)(a:y.c=.uj):y.s.length<=5:=by
 obtain⟨d,_,h1,h2⟩:=pz w p b y h;have:=Hv (by rw[<-h2];exact a);rw[h1];simp;omega
theorem U6{p:Nat}(h:y∈toks w p b):y.s≠[]:=by
 obtain⟨a,c,h1,_⟩:=pz w p b y h;have d:=nC a;intro e;rw[h1]at e;rcases List.take_eq_nil_iff.1 e with e|e
 ·omega
 ·exact c e
theorem U7{p:Nat}(h:y∈toks w p b)(a:y.c=.kw z):y.s=z.bytes:=by
 obtain⟨d,_,h1,h2⟩:=pz w p b y h;rw[h1];exact KA (by rw[<-h2];exact a)
theorem PW.ur{a}:∀{c:List Wt}{l:List Tk}{d f:List UInt8}{b:List PT}{r:List Tk},PW a c l d f b r->b.length=sU c
 |_,_,_,_,_,_,.nil=>rfl
 |_,_,_,_,_,_,.close _ h1=>by have:=PW.ur h1;simpa [sU] using this
 |_,_,_,_,_,_,.name _ h1=>by have:=PW.ur h1;simpa [sU] using this
 |_,_,_,_,_,_,.region _ h1=>by have:=PW.ur h1;simpa [sU] using this
 |_,_,_,_,_,_,.e _ h1=>by have:=PW.ur h1;simp[sU]at this⊢;exact this
theorem Fz(id p:Nat)(x):(fin id p x).2.of.length=x.2.of.length:=by
 simp[fin];split
 ·exact si _ _ _
 ·rfl
theorem zo(cls)(k)(p a:Nat)(c)(b):(dz cls k p a c b).2.of.length=b.of.length:=by rw[BG]
mutual
theorem oL(cls):∀(t:PT)(id d:Nat)(e:dc)(g:gH),(aV cls t id d e g).2.of.length=g.of.length
 |.num p s,id,d,e,g=>by simp only[aV];rw[Fz]
 |.name p s,id,d,e,g=>by
  simp only[aV];rw[Fz];split
  ·rfl
  ·exact si _ _ _
 |.node p k h l f,id,d,e,g=>by
  simp only[aV];rw[Fz];split
  ·exact Ep cls h f _ _ _ _
  ·have j:(if k=.loop then df cls h f (id+1) d e g else cP cls f (id+1) (d+if k=.pair then 1 else 0) e g).2.of.length=g.of.length:=by
    split
    ·exact wR cls h f _ _ _ _
    ·exact rG cls f _ _ _ _
   generalize (if k=.loop then df cls h f (id+1) d e g else cP cls f (id+1) (d+if k=.pair then 1 else 0) e g)=x at j⊢;split
   ·exact j
   ·rw[zo];exact j
theorem rG(cls):∀(i:List PT)(id d:Nat)(e:dc)(g:gH),(cP cls i id d e g).2.of.length=g.of.length
 |[],_,_,_,_=>by simp only[cP]
 |a::r,id,d,e,g=>by simp only[cP];rw[rG cls r,oL cls a]
theorem Ep(cls)(h):∀(i:List PT)(id d:Nat)(e:dc)(g:gH),(gI cls h i id d e g).2.of.length=g.of.length
 |[a,b],id,d,e,g=>by simp only[gI];rw[oL cls b,oL cls a]
 |[],_,_,_,_=>by simp only[gI]
 |[_],_,_,_,_=>by simp only[gI]
 |_::_::_::_,_,_,_,_=>by simp only[gI]
theorem wR(cls)(h):∀(i:List PT)(id d:Nat)(e:dc)(g:gH),(df cls h i id d e g).2.of.length=g.of.length
 |[a,b,c],id,d,e,g=>by simp only[df];rw[oL cls c,oL cls b,oL cls a]
 |[],_,_,_,_=>by simp only[df]
 |[_],_,_,_,_=>by simp only[df]
 |[_,_],_,_,_,_=>by simp only[df]
 |_::_::_::_::_,_,_,_,_=>by simp only[df]
end
mutual
def PT.wf:PT->Prop
 |.num _ _=>True
 |.name _ _=>True
 |.node _ k _ _ a=>a.length=arity k/\rH a
def rH:List PT->Prop
 |[]=>True
 |t::r=>t.wf/\rH r
end
theorem s7:∀{b:List PT},rH b->∀t∈b,t.wf
 |[],_,t,h=>by simp at h
 |a::r,c,t,h=>by
  rcases bf.1 h with h|h
  ·subst h;exact c.1
  ·exact s7 c.2 t h
theorem Rc{cls}(hit:Ek K cls)(q:cls.length<=9000)(t):t.wf->sZ K w cls t:=by
 induction t using PT.ind with
 |h1 p s=>
  intro _;refine xZ (Q4 K w cls p s) (λid d f h=>by simp[aV];rfl) (λ_ _ _ _=>rfl) (λ_ _ _ _ _ _=>oz)
 |h2 p s=>
  intro _;refine xZ (OB K w cls p s) (λid d f h=>by simp[aV];rfl) ?_ ?_
  ·intro id d f h;unfold BD;split
   ·rfl
   ·exact si _ _ _
  ·intro id d f h h1 h2;simp[BD];split
   ·rename_i t l;obtain⟨x,i,rfl⟩:=Bv l;exact h1 x i
   ·exact oz
 |h3 p k o u g A=>
  intro r;have j:=λx i=>A x i (s7 r.2 x i);by_cases v:k=.dV
  ·subst v
   match g,r.1,j with
   |[a,b],_,j=>
    refine xZ (Q6 p o u a b hit (j a (by simp)) (j b (by simp))) (λid d f h=>by simp only[aV];rw[ah trivial];rfl) (λ_ _ _ _=>Ep _ _ _ _ _ _ _) ?_;intro id d f h h1 h2;exact (Hc cls hit.1 o [a,b] _ _ f h ⟨h1,h2⟩).1
  ·by_cases m:k=.loop
   ·subst m
    match g,r.1,j with
    |[a,b,c],_,j=>
     refine xZ (OH p o u a b c hit q (j a (by simp)) (j b (by simp)) (j c (by simp))) (λid d f h=>by simp only[aV];rw[ag (by decide),ah trivial];rfl) ?_ ?_
     ·intro id d f h;simp only[BI];split
      ·exact wR _ _ _ _ _ _ _
      ·rw[zo];exact wR _ _ _ _ _ _ _
     ·intro id d f h h1 h2;have i:=Ef cls hit.1 o [a,b,c] (id+1) d f h ⟨h1,h2⟩;simp only[BI];split
      ·exact oz
      ·rename_i n;have y:(df cls o [a,b,c] (id+1) d f h).2.e=0:=by simpa using n
       exact (Bw hit.1 (λt l=>⟨i.1 t l,(i.2.1 y).2 t l⟩)).1
   ·refine xZ (OD p k o u g hit q v m r.1 j) (λid d f h=>by simp only[aV];rw[ag v,ag m];rfl) ?_ ?_
    ·intro id d f h;simp only[BF];generalize (d+if k=.pair then 1 else 0)=z;split
     ·exact rG _ _ _ _ _ _
     ·rw[zo];exact rG _ _ _ _ _ _
    ·intro id d f h h1 h2;have i:=vp cls hit.1 g (id+1) (d+if k=.pair then 1 else 0) f h ⟨h1,h2⟩;simp only[BF];generalize (d+if k=.pair then 1 else 0)=z at i⊢;split
     ·exact oz
     ·rename_i n;have y:(cP cls g (id+1) z f h).2.e=0:=by simpa using n
      exact (Bw hit.1 (λt l=>⟨i.1 t l,(i.2.1 y).2 t l⟩)).1
open Go.Lib (decDigits)
inductive Vl where
 |n (k:Nat)
 |p (a b:Vl)
def Vl.txt:Vl->List UInt8
 |.n k=>decDigits k
 |.p a b=>91::(a.txt++(32::(b.txt++[93])))
def Vl.num:Vl->Nat
 |.n k=>k
 |.p _ _=>0
def Vl.fst:Vl->Vl
 |.p a _=>a
 |.n _=>.n 0
def Vl.snd:Vl->Vl
 |.p _ b=>b
 |.n _=>.n 0
def Vl.size:Vl->Nat
 |.n _=>0
 |.p a b=>a.size+b.size+1
def Vl.has:Vl->Ty->Prop
 |.n k,.n=>k<=9999
 |.p a b,.p _ x y=>a.has x/\b.has y
 |_,_=>False
structure jF where
 steps:Nat
 cells:Nat
 e:Nat
abbrev ni:=List (List UInt8×Vl)
def tU(a:ni)(s:List UInt8):Vl:=((a.reverse.find? (λx=>x.1==s)).map (·.2)).getD (.n 0)
def turns(f:Vl->jF->Vl×jF):Nat->Vl->jF->Vl×jF
 |0,v,a=>(v,a)
 |k+1,v,a=>if a.e≠0 then (v,a) else turns f k (f v a).1 (f v a).2
def mM(k:Kw)(d:List Vl)(c:jF):Vl×jF:=
 match k,d with
 |.pair,[a,b]=>(.p a b,{c with cells:=c.cells+1})
 |.fst,[a]=>(a.fst,c)
 |.snd,[a]=>(a.snd,c)
 |.add,[a,b]=>(.n ((a.num+b.num)%10000),c)
 |.sub,[a,b]=>(.n ((a.num+10000-b.num)%10000),c)
 |.less,[a,b]=>(.n (if a.num<b.num then 1 else 0),c)
 |_,_=>(.n 0,c)
def begun(b:Nat)(a:jF)(f:jF->Vl×jF):Vl×jF:=
 if a.e≠0 then (.n 0,a) else if a.steps=b then (.n 0,{a with e:=12}) else f {a with steps:=a.steps+1}
mutual
def ev(d:Nat):PT->ni->jF->Vl×jF
 |.num _ s,_,g=>begun d g (λg=>(.n (aQ s).toNat,g))
 |.name _ s,f,g=>begun d g (λg=>(tU f s,g))
 | .node _ k i _ h,f,g=>begun d g (λg=>
   if k=.dV then Ao d i h f g
   else if k=.lv then DM d h f g
   else if k=.loop then s8 d i h f g
   else
    let x:=lJ d h f g
    if x.2.e≠0 then (.n 0,x.2) else mM k x.1 x.2)
def lJ(d:Nat):List PT->ni->jF->List Vl×jF
 |[],_,g=>([],g)
 |a::r,f,g=>
  let x:=ev d a f g
  let y:=lJ d r f x.2
  (x.1::y.1,y.2)
def Ao(d:Nat)(i:List UInt8):List PT->ni->jF->Vl×jF
 |[a,b],f,g=>
  let x:=ev d a f g
  ev d b (f++[(i,x.1)]) x.2
 |_,_,g=>(.n 0,g)
def DM(d:Nat):List PT->ni->jF->Vl×jF
 |[a,b,c],f,g=>
  let x:=ev d a f g
  if x.1.num≠0 then ev d b f x.2 else ev d c f x.2
 |_,_,g=>(.n 0,g)
def s8(d:Nat)(i:List UInt8):List PT->ni->jF->Vl×jF
 |[a,b,c],f,g=>
  let x:=ev d a f g
  let y:=ev d b f x.2
  turns (λv g=>ev d c (f++[(i,v)]) g) x.1.num y.1 y.2
 |_,_,g=>(.n 0,g)
end
inductive WT: dc->PT->Ty->Prop
 |num {G:dc} {p:Nat} {s:List UInt8}:WT G (.num p s) .n
 |name {G:dc} {p:Nat} {s:List UInt8} {T:Ty} (h:look G s=some T):WT G (.name p s) T
 |dV {G:dc} {p:Nat} {nm rg:List UInt8} {a b:PT} {A B:Ty} (ha:WT G a A) (hb:WT (G++[(nm,A)]) b B):WT G (.node p .dV nm rg [a,b]) B
 |pair {G:dc} {p:Nat} {nm rg:List UInt8} {a b:PT} {A B:Ty} (ha:WT G a A) (hb:WT G b B) (hs:(Ty.p 0 A B).size<=63):WT G (.node p .pair nm rg [a,b]) (.p 0 A B)
 |fst {G:dc} {p:Nat} {nm rg:List UInt8} {a:PT} {A B:Ty} (ha:WT G a (.p 0 A B)):WT G (.node p .fst nm rg [a]) A
 |snd {G:dc} {p:Nat} {nm rg:List UInt8} {a:PT} {A B:Ty} (ha:WT G a (.p 0 A B)):WT G (.node p .snd nm rg [a]) B
 |lv {G:dc} {p:Nat} {nm rg:List UInt8} {a b c:PT} {T:Ty} (ha:WT G a .n) (hb:WT G b T) (hc:WT G c T):WT G (.node p .lv nm rg [a,b,c]) T
 |two {G:dc} {p:Nat} {k:Kw} {nm rg:List UInt8} {a b:PT} (hk:k=.add\/k=.sub\/k=.less) (ha:WT G a .n) (hb:WT G b .n):WT G (.node p k nm rg [a,b]) .n
 |loop {G:dc} {p:Nat} {nm rg:List UInt8} {a b c:PT} {T:Ty} (ha:WT G a .n) (hb:WT G b T) (hc:WT (G++[(nm,T)]) c T):WT G (.node p .loop nm rg [a,b,c]) T
 |new {G:dc} {p:Nat} {nm rg:List UInt8} {a:PT} {T:Ty} (ha:WT G a T):WT G (.node p .new nm rg [a]) T
def mc(a:dc):dc:=a.map (λx=>(x.1,x.2.bare))
theorem gq(t:Ty):t.bare.size=t.size:=by induction t<;>simp[Ty.bare,Ty.size, *]
theorem vD(a:dc)(s):look (mc a) s=(look a s).map Ty.bare:=by
 unfold look mc;rw[<-List.map_reverse,List.find?_map];simp[Function.comp_def]
theorem oM(a:dc)(b)(T):mc (a++[(b,T)])=mc a++[(b,T.bare)]:=by simp[mc]
theorem qx{e p:Nat}(a:e≠0)(h:(gY u e p).e=0):False:=yV u e p a h
theorem BL{id p:Nat}{x}(h:(fin id p x).2.e=0):x.2.e=0/\x.1.size<=63:=by
 unfold fin at h;split at h
 ·exact (qx (by decide) h).elim
 ·rename_i a;refine⟨h,?_⟩;rcases jv 63 x.1.size with h1|h1
  ·exact absurd ⟨h,h1⟩ a
  ·exact h1
theorem KC(id p:Nat)(x):(fin id p x).1=x.1:=by unfold fin;rfl
def WTs(G:dc):List PT->List Ty->Prop
 |[],[]=>True
 |a::r,T::b=>WT G a T/\WTs G r b
 |_,_=>False
theorem U8{cls}{p:Nat}{n}{g}(o:z≠.dV)(m:z≠.loop)(j:g.length=arity z)(f:WTs T g (L.map Ty.bare))(h:(dz cls z p w L u).2.e=0)(l:(dz cls z p w L u).1.size<=63):WT T (.node p z b n g) (dz cls z p w L u).1.bare:=by
 unfold dz at h l⊢;split at h
 ·match g,j,f with
  |[a],_,f=>simp[WTs]at f;exact .new f.1
 ·match g,j,f with
  |[a,d],_,f=>
   simp[Ty.size]at l;exact .pair f.1 f.2.1 (by simp[Ty.size,gq];omega)
 ·match g,j,f with
  |[a],_,f=>simp[WTs,Ty.bare]at f;exact .fst f.1
 ·match g,j,f with
  |[a],_,f=>simp[WTs,Ty.bare]at f;exact .snd f.1
 ·match g,j,f with
  |[a,d,c],_,f=>
   split at h
   ·rename_i i;simp[ah i];rw[i.1]at f;exact .lv f.1 f.2.1 (by rw[i.2];exact f.2.2.1)
   ·exact (qx (by decide) h).elim
 ·exact absurd rfl m
 all_goals first
  |(exact (qx (by decide) h).elim)
  | (match g,j,f with
     |[a,d],_,f=>
      split at h
      ·rename_i i;simp[ah i];rw[i.1,i.2]at f;exact .two (by simp) f.1 f.2.1
      ·exact (qx (by decide) h).elim)
mutual
theorem oN(cls):∀(t:PT)(id d:Nat)(f:dc)(g:gH),t.wf->(aV cls t id d f g).2.e=0->g.e=0/\(aV cls t id d f g).1.size<=63/\WT (mc f) t (aV cls t id d f g).1.bare
 |.num p s,id,d,f,g,_,h=>by
  simp only[aV]at h⊢;have:=BL h;rw[KC];exact⟨this.1,this.2,.num⟩
 |.name p s,id,d,f,g,_,h=>by
  simp only[aV]at h⊢;have i:=BL h;rw[KC];split at i
  ·rename_i t C;exact⟨i.1,i.2,.name (by rw[vD,C];rfl)⟩
  ·exact (qx (by decide) i.1).elim
 |.node p k u w n,id,d,f,g,j,h=>by
  simp only[PT.wf]at j;simp only[aV]at h⊢;have i:=BL h;rw[KC];by_cases z:k=.dV
  ·subst z;simp only[ah]at i⊢;have:=Rd cls u p w n (id+1) d f g j.1 j.2 i.1;exact⟨this.1,i.2,this.2⟩
  ·simp only[ag z]at i⊢;by_cases o:k=.loop
   ·subst o;simp only[ah]at i⊢;split at i
    ·rename_i l;exact absurd i.1 l
    ·rename_i l;rw[ag l];have D:(df cls u n (id+1) d f g).2.e=0:=by simpa using l
     have:=OL cls u p w n (id+1) d f g j.1 j.2 D p d i.1;exact⟨this.1,i.2,this.2⟩
   ·simp only[ag o]at i⊢;have v:=Er cls n (id+1) (d+if k=.pair then 1 else 0) f g j.2;generalize cP cls n (id+1) (d+if k=.pair then 1 else 0) f g=x at v i⊢;by_cases l:x.2.e≠0
    ·rw[ah l]at i;exact absurd i.1 l
    ·rw[ag l]at i⊢;have v:=v (by simpa using l);exact⟨v.1,i.2,U8 z o j.1 v.2 i.1 i.2⟩
theorem Er(cls):∀(m:List PT)(id d:Nat)(f:dc)(g:gH),rH m->(cP cls m id d f g).2.e=0->g.e=0/\WTs (mc f) m ((cP cls m id d f g).1.map Ty.bare)
 |[],_,_,_,g,_,h=>by simp only[cP]at h⊢;exact⟨h,trivial⟩
 |a::r,id,d,f,g,j,h=>by
  simp only[rH]at j;simp only[cP]at h⊢;have h2:=Er cls r (id+a.cnt) (d+a.dn) f _ j.2 h;have h1:=oN cls a id d f g j.1 h2.1;exact⟨h1.1,h1.2.2,h2.2⟩
theorem Rd(cls)(u)(p:Nat)(w):∀(m:List PT)(id d:Nat)(f:dc)(g:gH),m.length=arity .dV->rH m->(gI cls u m id d f g).2.e=0->g.e=0/\WT (mc f) (.node p .dV u w m) (gI cls u m id d f g).1.bare
 |[a,b],id,d,f,g,_,j,h=>by
  simp only[rH]at j;simp only[gI]at h⊢;have h2:=oN cls b (id+a.cnt) (d+a.dn) _ _ j.2.1 h;have h1:=oN cls a id d f g j.1 h2.1;rw[oM]at h2;exact⟨h1.1,.dV h1.2.2 h2.2.2⟩
 |[],_,_,_,_,o,_,_=>by simp[arity]at o
 |[_],_,_,_,_,o,_,_=>by simp[arity]at o
 |_::_::_::_,_,_,_,_,o,_,_=>by simp[arity]at o
theorem OL(cls)(u)(p:Nat)(w):∀(m:List PT)(id d:Nat)(f:dc)(g:gH),m.length=arity .loop->rH m->(df cls u m id d f g).2.e=0->∀q s,(dz cls .loop q s (df cls u m id d f g).1 (df cls u m id d f g).2).2.e=0->g.e=0/\WT (mc f) (.node p .loop u w m) (dz cls .loop q s (df cls u m id d f g).1 (df cls u m id d f g).2).1.bare
 |[a,b,c],id,d,f,g,_,j,h,q,s,y=>by
  simp only[rH]at j;simp only[df]at h y⊢;have h3:=oN cls c (id+a.cnt+b.cnt) (d+a.dn+b.dn) _ _ j.2.2.1 h;have h2:=oN cls b (id+a.cnt) (d+a.dn) f _ j.2.1 h3.1;have h1:=oN cls a id d f g j.1 h2.1;rw[oM]at h3;simp only[dz]at y⊢;split at y
  ·rename_i A;rw[ah A];refine⟨h1.1,?_⟩;have B:=h1.2.2;rw[A.1]at B;exact .loop B h2.2.2 (by have:=h3.2.2;rw[<-A.2]at this;exact this)
  ·exact (qx (by decide) y).elim
 |[],_,_,_,_,o,_,_,_,_,_=>by simp[arity]at o
 |[_],_,_,_,_,o,_,_,_,_,_=>by simp[arity]at o
 |[_,_],_,_,_,_,o,_,_,_,_,_=>by simp[arity]at o
 |_::_::_::_::_,_,_,_,_,o,_,_,_,_,_=>by simp[arity]at o
end
def lK(k:Kw)(a:List UInt8)(i:Nat)(x:List UInt8):List UInt8:=(if (k=.dV/\i=0)\/(k=.loop/\i=1) then 32::a else [])++(32::x)
def gB(k:Kw)(a:List UInt8):Nat->List (List UInt8)->List UInt8
 |_,[]=>[]
 |i,x::r=>lK k a i x++gB k a (i+1) r
theorem s9(k)(a)(x):∀(l:List (List UInt8))(i:Nat),gB k a i (l++[x])=gB k a i l++lK k a (i+l.length) x
 |[],i=>by simp[gB]
 |y::r,i=>by
  simp[gB,s9 k a x r (i+1)];rw[show i+1+r.length=i+(r.length+1) from by omega]
mutual
def PT.uh:PT->List UInt8
 |.num _ s=>decDigits (aQ s).toNat
 |.name _ s=>s
 |.node _ k b _ a=>if k=.new then (pS a).headD [] else 40::(k.bytes++(gB k b 0 (pS a)++[41]))
def pS:List PT->List (List UInt8)
 |[]=>[]
 |t::r=>t.uh::pS r
end
theorem BM:∀a:List PT,(pS a).length=a.length
 |[]=>rfl
 |_::r=>by simp[pS,BM r]
mutual
def PT.eO:PT->Prop
 |.num _ s=>0<=aQ s/\aQ s<=9999
 |.name _ s=>s.length<=9000
 |.node _ _ b _ a=>b.length<=9000/\gJ a
def gJ:List PT->Prop
 |[]=>True
 |t::r=>t.eO/\gJ r
end
theorem nU(u:Nat)(h:u<=9999):(decDigits u).length<=4:=by
 rw[Go.Lib.decDigits];split
 ·simp
 ·rw[Go.Lib.decDigits];split
  ·simp
  ·rw[Go.Lib.decDigits];split
   ·simp
   ·rw[Go.Lib.decDigits];split
    ·simp
    ·omega
theorem BN(k)(a)(i:Nat)(x)(h:a.length<=9000):(lK k a i x).length<=9002+x.length:=by
 unfold lK;split<;>simp<;>omega
mutual
theorem A7:∀t:PT,t.eO->t.uh.length+9002<=20000*t.cnt
 |.num _ s,h=>by
  simp only[PT.eO]at h;simp only[PT.uh,PT.cnt];have:=nU (aQ s).toNat (by omega);omega
 |.name _ s,h=>by simp only[PT.eO]at h;simp only[PT.uh,PT.cnt];omega
 |.node _ k c _ a,h=>by
  simp only[PT.eO]at h;have h1:=zq k c a 0 h.1 h.2;have h2:=OM a h.2;have h3:k.bytes.length<=4:=by cases k<;>decide
  simp only[PT.uh,PT.cnt];split
  ·omega
  ·simp only[aF,aj,bn];omega
theorem zq(k)(c):∀(b:List PT)(i:Nat),c.length<=9000->gJ b->(gB k c i (pS b)).length<=20000*aU b
 |[],_,_,_=>by simp[pS,gB]
 |t::r,i,h,d=>by
  simp only[gJ]at d;have h1:=A7 t d.1;have h2:=zq k c r (i+1) h d.2;have h3:=BN k c i t.uh h;simp only[pS,gB,aj,aU];omega
theorem OM:∀b:List PT,gJ b->((pS b).headD []).length<=20000*aU b
 |[],_=>by simp[pS]
 |t::r,d=>by
  simp only[gJ]at d;have h1:=A7 t d.1;simp only[pS,mZ,aU];omega
end
def yc(e:Nat):Nat:=if e=0 then 0 else 1
theorem Ap{e:Nat}(h:e=0):yc e=0:=by unfold yc;rw[ah h]
theorem Xf{e:Nat}(h:e≠0):yc e=1:=by unfold yc;rw[ag h]
structure RB(fuel n:Nat)(st st':RS): Prop where
 steps:st.steps<=st'.steps/\st'.steps<=fuel
 go:st'.e=0->st.steps<st'.steps
 cells:st.cells<=st'.cells/\st'.cells+st.steps<=st.cells+st'.steps
 ky:st'.ky.length+st.cells<=st.ky.length+st'.cells
 dq:st'.dq.length<=st.dq.length+n*(st'.steps-st.steps+yc st'.e)
theorem FA(a:RS)(v):(a.used v).steps=a.steps/\(a.used v).cells=a.cells/\(a.used v).ky=a.ky/\(a.used v).dq=a.dq/\(a.used v).ops=a.ops/\(a.used v).opn=a.opn/\((a.used v).e=0->a.e=0):=by
 unfold RS.used;split
 ·exact⟨rfl,rfl,rfl,rfl,rfl,rfl,λh=>h⟩
 ·split
  ·rename_i b;exact⟨rfl,rfl,rfl,rfl,rfl,rfl,λh=>by simp at h⟩
  ·exact⟨rfl,rfl,rfl,rfl,rfl,rfl,λh=>h⟩
theorem FB(a:RS)(b:Int):(a.gm b).2.steps=a.steps/\(a.gm b).2.cells=a.cells/\(a.gm b).2.dq=a.dq/\(a.gm b).2.e=a.e/\(a.gm b).2.ky.length<=a.ky.length+1:=by
 unfold RS.gm;split<;>simp
theorem lW{n:Nat}(h:a<=w):n*a<=n*w:=Nat.mul_le_mul_left n h
theorem pT(a:Nat)(t)(b:kz)(c)(h:c.e≠0):rW a t b c=(.n 0,c):=by
 cases t with
 |num p s=>unfold rW jg;rw[ah h]
 |name p s=>unfold rW jg;rw[ah h]
 |node p k f g d=>
  unfold rW;split
  ·first|rfl|rw[ah h]
  ·unfold jg;first|rfl|rw[ah h]
theorem BO{n:Nat}{f}(b:x.e=0)(d:x.steps<=w)(h:∀a:RS,a.steps=x.steps+1->a.cells=x.cells->a.ky=x.ky->a.dq=x.dq->a.e=0->a.steps<=w->a.steps<=(f a).2.steps/\(f a).2.steps<=w/\a.cells<=(f a).2.cells/\(f a).2.cells+x.steps<=x.cells+(f a).2.steps/\(f a).2.ky.length+x.cells<=x.ky.length+(f a).2.cells/\(f a).2.dq.length<=x.dq.length+n*((f a).2.steps-x.steps+yc (f a).2.e)):RB w n x (jg w x f).2:=by
 unfold jg;rw[ag (by simpa using b)];split
 ·exact⟨⟨bS,d⟩,λe=>by simp at e,⟨bS,bS⟩,bS,by simp⟩
 ·rename_i m;obtain⟨g,i,c,j,k,l⟩:=h {x with steps:=x.steps+1} rfl rfl rfl rfl b (by show x.steps+1<=w;omega);simp only at g c;exact⟨⟨by omega,i⟩,λ_=>by omega,⟨c,j⟩,k,l⟩
theorem RB.seq{n:Nat}(h:RB w a x v)(f:v.e=0)(d:RB w n v P):RB w (a+n) x P:=by
 have g:=h.dq;rw[Ap f,az]at g;have i:=d.dq;have j:=h.cells;have k:=d.cells;have l:=h.ky;have o:=d.ky;refine⟨⟨by omega,d.steps.2⟩,λe=>by have:=d.go e;omega,⟨by omega,by omega⟩,by omega,?_⟩;have p:a*(v.steps-x.steps)<=a*(P.steps-x.steps+yc P.e):=lW (by omega);have q:n*(P.steps-v.steps+yc P.e)<=n*(P.steps-x.steps+yc P.e):=lW (by omega);rw[jU];omega
theorem RB.le{n:Nat}(h:RB w a x v)(c:a<=n):RB w n x v:=by
 have k:a*(v.steps-x.steps+yc v.e)<=n*(v.steps-x.steps+yc v.e):=eV _ c;exact⟨h.steps,h.go,h.cells,h.ky,by have:=h.dq;omega⟩
theorem RB.after{n:Nat}(h:RB w n P x)(h1:P.steps=v.steps+1)(h2:P.cells=v.cells)(h3:P.ky=v.ky)(b:P.dq=v.dq):P.steps<=x.steps/\x.steps<=w/\P.cells<=x.cells/\x.cells+v.steps<=v.cells+x.steps/\x.ky.length+v.cells<=v.ky.length+x.cells/\x.dq.length<=v.dq.length+(1+n)*(x.steps-v.steps+yc x.e):=by
 have s:=h.steps;have c:=h.cells;have a:=h.ky;have t:=h.dq;rw[h3,h2]at a;rw[b]at t;have k:n*(x.steps-P.steps+yc x.e)<=n*(x.steps-v.steps+yc x.e):=lW (by omega);rw[jU];omega
theorem BP{b n:Nat}{f}(d:∀v a,a.e=0->a.steps<=b->RB b n a (f v a).2):∀(k:Nat)(v:RV)(a:RS),a.steps<=b->a.steps<=(eZ f k v a).2.steps/\(eZ f k v a).2.steps<=b/\a.cells<=(eZ f k v a).2.cells/\(eZ f k v a).2.cells+a.steps<=a.cells+(eZ f k v a).2.steps/\(eZ f k v a).2.ky.length+a.cells<=a.ky.length+(eZ f k v a).2.cells/\(eZ f k v a).2.dq.length<=a.dq.length+n*((eZ f k v a).2.steps-a.steps+yc (eZ f k v a).2.e)/\(a.e≠0->(eZ f k v a).2=a)
 |0,v,a,c=>⟨bS,c,bS,bS,bS,by simp[eZ],λ_=>rfl⟩
 |k+1,v,a,c=>by
  unfold eZ;split
  ·rename_i g;exact⟨bS,c,bS,bS,bS,by simp,λ_=>rfl⟩
  ·rename_i g;have h:a.e=0:=by simpa using g
   have h1:=d v a h c;obtain⟨q,r,s,t,u,w,o⟩:=BP d k (f v a).1 (f v a).2 h1.steps.2;have i:=h1.steps;have j:=h1.cells;have p:=h1.ky;have l:=h1.dq;by_cases m:(f v a).2.e=0
   ·rw[Ap m,az]at l;have x:n*((f v a).2.steps-a.steps)+n*((eZ f k (f v a).1 (f v a).2).2.steps-(f v a).2.steps+yc (eZ f k (f v a).1 (f v a).2).2.e)=n*((eZ f k (f v a).1 (f v a).2).2.steps-a.steps+yc (eZ f k (f v a).1 (f v a).2).2.e):=by
     rw[<-Nat.mul_add];congr 1;omega
    omega
   ·rw[o m];exact⟨i.1,i.2,j.1,j.2,p,l,λe=>absurd h e⟩
mutual
theorem p4(d:Nat):∀(t:PT)(i:kz)(l:RS),t.wf->l.e=0->l.steps<=d->RB d t.cnt l (rW d t i l).2
 |.num _ s,i,l,_,B,D=>by
  refine BO B D (λj h1 h2 h3 p C r=>⟨bS,r,bS,?_,?_,?_⟩)
  ·show j.cells+l.steps<=l.cells+j.steps;omega
  ·show j.ky.length+l.cells<=l.ky.length+j.cells;rw[h3];omega
  ·show j.dq.length<=_;rw[p];exact eU _ _
 |.name _ s,i,l,_,B,D=>by
  refine BO B D (λj h1 h2 h3 p C r=>⟨bS,r,bS,?_,?_,?_⟩)
  ·show j.cells+l.steps<=l.cells+j.steps;omega
  ·show j.ky.length+l.cells<=l.ky.length+j.cells;rw[h3];omega
  ·show j.dq.length<=_;rw[p];exact eU _ _
 |.node _ k H I q,i,l,m,B,D=>by
  simp[PT.wf]at m;unfold rW;split
  ·rename_i M;subst M;rw[ag (by simpa using B)]
   match q,m with
   |[a],m=>
    simp[tX,PT.cnt,aU];have h:=p4 d a i (l.opened (aQ I)) m.2.1 B D;generalize rW d a i (l.opened (aQ I))=x at h;have s:=h.steps;have g:x.2.e=0->l.steps<x.2.steps:=h.go;have c:=h.cells;have w:=h.ky;have t:x.2.dq.length<=l.dq.length+a.cnt*(x.2.steps-l.steps+yc x.2.e):=h.dq;refine⟨s,g,c,w,?_⟩;show (x.2.dq++[_]).length<=l.dq.length+(1+a.cnt)*(x.2.steps-l.steps+yc x.2.e);rw[jU,aj,bG];by_cases e:x.2.e=0
    ·omega
    ·rw[Xf e]at t⊢;omega
  ·rename_i M;refine BO B D (λj h1 h2 h3 p C r=>?_);simp[PT.cnt];split
   ·rename_i u;subst u
    match q,m with
    |[a,b],m=>
     simp[xU,aU];have o:=p4 d a i j m.2.1 C r;by_cases e:(rW d a i j).2.e=0
     ·exact (o.seq e (p4 d b _ _ m.2.2.1 e o.steps.2)).after h1 h2 h3 p
     ·rw[pT d b _ _ e];exact (o.le (eU _ _)).after h1 h2 h3 p
   ·split
    ·rename_i u;subst u
     match q,m with
     |[a,b,c],m=>
      simp only[Hd,aU,az];have o:=p4 d a i j m.2.1 C r;by_cases e:(rW d a i j).2.e=0
      ·split
       ·exact ((o.seq e (p4 d b _ _ m.2.2.1 e o.steps.2)).le (by omega)).after h1 h2 h3 p
       ·exact ((o.seq e (p4 d c _ _ m.2.2.2.1 e o.steps.2)).le (by omega)).after h1 h2 h3 p
      ·split
       ·rw[pT d b _ _ e];exact (o.le (eU _ _)).after h1 h2 h3 p
       ·rw[pT d c _ _ e];exact (o.le (eU _ _)).after h1 h2 h3 p
    ·split
     ·rename_i u;subst u
      match q,m with
      |[a,b,c],m=>
       simp[pZ,aU];have o:=p4 d a i j m.2.1 C r;by_cases e:(rW d a i j).2.e=0
       ·have A:=o.seq e (p4 d b i _ m.2.2.1 e o.steps.2);obtain⟨Z,a2,a3,a4,a5,a6,J⟩:=BP (b:=d) (n:=c.cnt) (f:=λv l=>rW d c ((H,v)::i) l) (λv l K L=>p4 d c _ l m.2.2.2.1 K L) (rW d a i j).1.num.toNat (rW d b i (rW d a i j).2).1 (rW d b i (rW d a i j).2).2 A.steps.2;by_cases F:(rW d b i (rW d a i j).2).2.e=0
        ·have R:=A.cells;have w:=A.ky;have t:=A.dq;rw[Ap F,az]at t;generalize (eZ (λv l=>rW d c ((H,v)::i) l) (rW d a i j).1.num.toNat (rW d b i (rW d a i j).2).1 (rW d b i (rW d a i j).2).2).2=z at*;generalize (rW d b i (rW d a i j).2).2=y at*;rw[h3,h2]at w;rw[p]at t;have N:(a.cnt+b.cnt)*(y.steps-j.steps)<=(a.cnt+b.cnt)*(z.steps-l.steps+yc z.e):=lW (by omega);have S:c.cnt*(z.steps-y.steps+yc z.e)<=c.cnt*(z.steps-l.steps+yc z.e):=lW (by omega);rw[show 1+(a.cnt+(b.cnt+c.cnt))=1+((a.cnt+b.cnt)+c.cnt) from by omega,jU,jU];omega
        ·rw[J F];exact (A.le (by omega)).after h1 h2 h3 p
       ·rw[pT d b _ _ e];obtain⟨_,_,_,_,_,_,J⟩:=BP (b:=d) (n:=c.cnt) (f:=λv l=>rW d c ((H,v)::i) l) (λv l K L=>p4 d c _ l m.2.2.2.1 K L) (rW d a i j).1.num.toNat (.n 0) (rW d a i j).2 o.steps.2;rw[J e];exact (o.le (eU _ _)).after h1 h2 h3 p
     ·rename_i N S k3
      match q,m with
      |[],m=>simp only[mI,aU];exact⟨bS,r,bS,by omega,by rw[h3];omega,by rw[p];exact eU _ _⟩
      |[a],m=>
       simp[mI,aU];have o:=p4 d a i j m.2.1 C r;have O:RB d a.cnt j ((rW d a i j).2.used (rW d a i j).1):=by
        obtain⟨G,P,T,U,_,_,Q⟩:=FA (rW d a i j).2 (rW d a i j).1;refine⟨by rw[G];exact o.steps,λe=>by rw[G];exact o.go (Q e),by rw[G,P];exact o.cells,by rw[P,T];exact o.ky,?_⟩;rw[G,U];refine bw o.dq (Nat.add_le_add_left (lW ?_) _);by_cases e:((rW d a i j).2.used (rW d a i j).1).e=0
        ·rw[Ap e,Ap (Q e)];exact bS
        ·rw[Xf e];unfold yc;split<;>omega
       split
       ·exact O.after h1 h2 h3 p
       ·exact O.after h1 h2 h3 p
      |[a,b],m=>
       simp only[mI,aU,az];have o:=p4 d a i j m.2.1 C r;by_cases e:(rW d a i j).2.e=0
       ·have A:=o.seq e (p4 d b i _ m.2.2.1 e o.steps.2);split
        ·exact A.after h1 h2 h3 p
        ·rename_i F;have E:(rW d b i (rW d a i j).2).2.e=0:=by simpa using F
         split
         ·have af:=A.after h1 h2 h3 p;obtain⟨V,W,X,Y,q5⟩:=FB (rW d b i (rW d a i j).2).2 (aQ I);simp[tS,RS.one];rw[V,W,X,Y];rw[Ap E];simp;have t:=A.dq;rw[Ap E,az,p]at t;have N:(a.cnt+b.cnt)*((rW d b i (rW d a i j).2).2.steps-j.steps)<=(a.cnt+b.cnt)*((rW d b i (rW d a i j).2).2.steps-l.steps):=lW (by omega);have R:=A.cells;rw[jU];omega
         ·exact A.after h1 h2 h3 p
       ·rw[pT d b _ _ e,ah e];exact (o.le (eU _ _)).after h1 h2 h3 p
      |_::_::_::_,m=>simp only[mI];exact⟨bS,r,bS,by omega,by rw[h3];omega,by rw[p];exact eU _ _⟩
end
