import Derived.Test.YtpicaknklgccoabGreatDoorV38
set_option maxHeartbeats 8000000
set_option maxRecDepth 100000
namespace Go.Proofs.YtpicaknklgccoabGreatDoor
open Go.RowKit
theorem Sz (L:Ly) (hlo:∀ i,-1<=jW L.regs i) (wb:Nat) (x1:Option Addr) (n1 c1:Nat) (x2:Option Addr) (n2 c2:Nat) (ns:List NR) (op:List Int) (p:Nat) (k:Kw) (nm rg:List UInt8) (kids:List PT) (hkn:k≠.new) (ih:∀ x∈kids,BK L wb (.slice x1 n1 c1) (.slice x2 n2 c2) ns op x):Pb L wb (.slice x1 n1 c1) (.slice x2 n2 c2) ns op (.node p k nm rg kids):=by
 intro base w v tx hsh jQ hwf hle oX hin bq;simp only[gN] at hsh;obtain⟨⟨n,hn,hf,hwd,nT,fk,oU⟩,hks⟩:=hsh;simp only[PT.bQ] at jQ;simp only[PT.wf] at hwf;simp only[PT.cnt] at hle oX
 have har:kids.length<=3:=by rw[hwf.1];cases k <;> decide
 have hno:=eT w (.slice x1 n1 c1) (.slice x2 n2 c2) ns op (bq.tree w (Below.refl _ _)) (base+ax kids) n hn bq.len;have hb:=hin.blk;have hbl:=bq.len
 have y0:w.cell? ⟨wb,0,none⟩=some (.slice x1 n1 c1):=by rw[aa hb];rfl
 have y1:w.cell? ⟨wb,1,none⟩=some (.slice x2 n2 c2):=by rw[aa hb];rfl
 have AW:=λ(w':World) (hb:Below w.heap.size w w')=>bq.lay w' (hb.mono (Nat.le_of_lt (af hin.blk)))
 have hrg:=λ(w':World) (hb:Below w.heap.size w w')=>ID w' L (AW w' hb) bq.rl (base+ax kids) (by have:=bq.len;omega)
 obtain⟨a0,e0,hlr⟩:=aG (AW w (Below.refl _ _)).r;obtain⟨a1,e1,hla⟩:=aG (AW w (Below.refl _ _)).a;rw[hlr,hla] at hrg
 have hcall:=λw' (h1:lu L wb w' (.slice x1 n1 c1) (.slice x2 n2 c2) v tx) (h2:rO L wb w' (.slice x1 n1 c1) (.slice x2 n2 c2) ns op) =>
  Da L wb x1 n1 c1 x2 n2 c2 ns op k nm kids hkn har ih base w' v tx n hf hwd nT fk oU hks jQ.1 jQ.2 hwf.2 (by omega) oX (base+ax kids) (hlo _) h1 h2
 rw[Np L.regs L.news p k nm rg kids base hkn] at hcall;have q1:((n.form:Int)==1)=false:=ah (b:=1) (by rw[hf];cases k <;> decide);have q2:((n.form:Int)==2)=false:=ah (b:=2) (by rw[hf];cases k <;> decide);have A5:((n.form:Int)==12)=false:=ah (b:=12) (by rw[hf];cases k <;> first | decide | exact absurd rfl hkn);unfold aK at hcall;have HC:Hid _:=hcall;have nn:Hid _:=hin;have qx:Hid _:=bq;have hlt:=af hb;unfold aQ aK at hno;simp only[PT.cnt];rw[show (((base+(1+ax kids):Nat):Int)-1)=((base+ax kids:Nat):Int) from by omega];generalize (PT.node p k nm rg kids).Ap L.regs L.news base=px at *;generalize jW L.regs (base+ax kids)=R at *;generalize base+ax kids=K at *;clear AW hb hin bq hcall hn hf hwd nT fk oU hks ih jQ hwf oX hle
 go_enter Tryz.func77,Tryz.ntmps77
 go_wp2_with fail
 refine Calls.mono hno ?_;rintro _ w1 ⟨rfl,hb1⟩;have hs1:=hb1.size;have X6:=hb1.alloc hb1.size (cA n)
 have hwl:wb<w1.heap.size:=by omega
 have hwn:wb≠w1.heap.size:=by omega
 have y2:w1.cell? ⟨wb,2,none⟩=some (.slice a0 L.regs.length e0):=by rw[aa (nn.out.below hb1).blk,<- hlr];rfl
 have y3:w1.cell? ⟨wb,3,none⟩=some (.slice a1 L.news.length e1):=by rw[aa (nn.out.below hb1).blk,<- hla];rfl
 go_wp2_with fail
 refine (hrg _ X6).mono ?_;rintro _ w2 ⟨rfl,hb2⟩;have hB:Below w.heap.size w w2:=X6.trans (hb2.mono X6.size)
 have hnb:w2.heap[w1.heap.size]?=some (cA n):=by rw[hb2.block _ (by simp)];exact aj _ _
 obtain⟨d0,d1,d2,d3,d4,d5,d6,d7,d8,d9⟩:=aC hnb;have kJ:=af hnb;clear hb2 hnb
 go_wp2_with fail
 refine (HC.out _ (nn.out.below hB) (qx.out.on (hB.mono (Nat.le_of_lt hlt)))).mono ?_;rintro _ w3 ⟨v',rfl,hfr,rN⟩
 go_wp2_with fail
 refine bodyPost_end (v:=.tuple #[]) (by simp[results,Tryz.results77,go_sem]) rfl ⟨v',rfl,(kL.kC v hB).trans hfr,rN⟩
theorem SA (L:Ly) (hlo:∀ i,-1<=jW L.regs i) (wb:Nat) (x1:Option Addr) (n1 c1:Nat) (x2:Option Addr) (n2 c2:Nat) (ns:List NR) (op:List Int) (t:PT):t.wf->BK L wb (.slice x1 n1 c1) (.slice x2 n2 c2) ns op t:=by
 induction t using PT.ind with
 | h1 p s=>exact λ_=>C5 L _ _ _ _ _ _ (WM L wb x1 n1 c1 x2 n2 c2 ns op p s)
 | h2 p s=>exact λ_=>C5 L _ _ _ _ _ _ (Sq L wb x1 n1 c1 x2 n2 c2 ns op p s)
 | h3 p k nm rg kids ih =>
  intro hwf;simp only[PT.wf] at hwf
  have ih':∀ x∈kids,BK L wb (.slice x1 n1 c1) (.slice x2 n2 c2) ns op x:=λx hx=>ih x hx (Cg hwf.2 x hx)
  by_cases hk:k=.new
  ·subst hk
   match kids,hwf.1,ih' with
   | [x],_,ih'=>exact C5 L _ _ _ _ _ _ (WV L wb x1 n1 c1 x2 n2 c2 ns op p nm rg x (ih' x (by simp)))
  ·exact C5 L _ _ _ _ _ _ (Sz L hlo wb x1 n1 c1 x2 n2 c2 ns op p k nm rg kids hk ih')
open Go.Lib (strCells)
theorem Tryz.Ux:Tryz.prog.underlying 5=some (.int .u8):=by kernel_rfl
theorem Pv (w:World) (base:Nat) (v:Value) (tx:List UInt8) (h:w.ownsRow base 5 1 v tx.length (strCells (bs tx))):(convert 82 9 v).run Tryz.prog w=.ok (.string (bs tx)) w:=by
 rcases h.2 with ⟨h1,h2⟩ | ⟨g,cap,cur,h1,_⟩
 ·obtain rfl:tx=[]:=List.eq_nil_of_length_eq_zero h2
  subst h1;exact Lib.run_convert_nil_bytes w _ _ _ 0 Tryz.xW Tryz.Ux Tryz.G5
 ·subst h1
  have hc:Lib.Bytes w g 0 (bs tx):=by
   intro i hi;rw[Nat.zero_add,h.cellAt i (by rw[bE] at hi;omega)]
   have hi':i<tx.length:=by rw[bE] at hi;exact hi
   simp[strCells,bs,hi'];rfl
  have:=Lib.run_convert_whole (P:=Tryz.prog) w _ _ _ Tryz.xW Tryz.Ux Tryz.G5 g 0 (bs tx) hc cap;rw[bE] at this;exact this
abbrev bxT (x1:Option Addr) (n1 c1:Nat) (x2:Option Addr) (n2 c2:Nat):Obj:=.cells #[.slice x1 n1 c1,.slice x2 n2 c2] 62
abbrev bxL (y1:Option Addr) (m1 d1:Nat) (y2:Option Addr) (m2 d2:Nat):Obj:=.cells #[.slice y1 m1 d1,.slice y2 m2 d2] 73
abbrev bxW (x1:Option Addr) (n1 c1:Nat) (x2:Option Addr) (n2 c2:Nat) (y1:Option Addr) (m1 d1:Nat) (y2:Option Addr) (m2 d2:Nat):Obj:=.cells #[.slice x1 n1 c1,.slice x2 n2 c2,.slice y1 m1 d1,.slice y2 m2 d2,.slice none 0 0] 95
theorem IJ (w:World) (y1:Option Addr) (m1 d1:Nat) (y2:Option Addr) (m2 d2:Nat) (regs news:List Int) (hL:zL w ⟨.slice y1 m1 d1,.slice y2 m2 d2,regs,news⟩) (iW:YD regs news) (hlo:∀ i,-1<=jW regs i) (hrl:regs.length<=9000) (x1:Option Addr) (n1 c1:Nat) (x2:Option Addr) (n2 c2:Nat) (ns:List NR) (op:List Int) (t:PT) (hT:bB w (.slice x1 n1 c1) (.slice x2 n2 c2) ns op) (htab:Lib.TabIs Tryz.prog w "internal/strconv.uint64pow10" .u64 Lib.pow10Tab)
  (hsh:gN ns t 0) (jQ:t.bQ) (hwf:t.wf) (nF:t.cnt=ns.length) (hl:ns.length<=9000) :
  Calls Tryz.prog 32 #[aQ (.slice x1 n1 c1) (.slice x2 n2 c2),.agg #[.slice y1 m1 d1,.slice y2 m2 d2]] w λv w'=>v=.returned (.string (bs (t.wW regs news 0)))/\Below w.heap.size w w':=by
 have hA:Below w.heap.size w ((w.alloc (bxT x1 n1 c1 x2 n2 c2)).alloc (bxL y1 m1 d1 y2 m2 d2)):=((Below.refl _ _).alloc (Nat.le_refl _) _).alloc (by simp) _;have hB:Below w.heap.size w (((w.alloc (bxT x1 n1 c1 x2 n2 c2)).alloc (bxL y1 m1 d1 y2 m2 d2)).alloc (bxW x1 n1 c1 x2 n2 c2 y1 m1 d1 y2 m2 d2)):=hA.alloc (by simp;omega) _
 have hin:lu ⟨.slice y1 m1 d1,.slice y2 m2 d2,regs,news⟩ (w.heap.size+2) (((w.alloc (bxT x1 n1 c1 x2 n2 c2)).alloc (bxL y1 m1 d1 y2 m2 d2)).alloc (bxW x1 n1 c1 x2 n2 c2 y1 m1 d1 y2 m2 d2)) (.slice x1 n1 c1) (.slice x2 n2 c2) (.slice none 0 0) [] :=
  ⟨by have:=aj ((w.alloc (bxT x1 n1 c1 x2 n2 c2)).alloc (bxL y1 m1 d1 y2 m2 d2)) (bxW x1 n1 c1 x2 n2 c2 y1 m1 d1 y2 m2 d2);simpa using this,World.ownsRow_nil _ _ _ _⟩
 have bq:rO ⟨.slice y1 m1 d1,.slice y2 m2 d2,regs,news⟩ (w.heap.size+2) (((w.alloc (bxT x1 n1 c1 x2 n2 c2)).alloc (bxL y1 m1 d1 y2 m2 d2)).alloc (bxW x1 n1 c1 x2 n2 c2 y1 m1 d1 y2 m2 d2)) (.slice x1 n1 c1) (.slice x2 n2 c2) ns op :=
  ⟨λw' h'=>hT.below (hB.trans (h'.mono (by omega))),λw' h'=>Lib.tabBelow_of_tabIs htab w' (hB.trans (h'.mono (by omega))),hl,λw' h'=>hL.below (hB.trans (h'.mono (by omega))),iW,hrl⟩
 have hro:=λw' (h:Below w.heap.size w w')=>uw w' _ _ ns op (hT.below h) hl
 have hex:=λw' h1 h2=>SA ⟨.slice y1 m1 d1,.slice y2 m2 d2,regs,news⟩ hlo (w.heap.size+2) x1 n1 c1 x2 n2 c2 ns op t hwf 0 w' (.slice none 0 0) [] hsh jQ hwf (by omega) (by simp;omega) h1 h2
 rw[Nat.zero_add,nF] at hex;simp only[List.nil_append] at hex;unfold aQ at hro;have ML:Hid _:=hro;have DI:Hid _:=hex;have nn:Hid _:=hin;have qx:Hid _:=bq;have HB:Hid _:=hB;clear hro hex hin bq hA hL iW hlo hT htab hsh jQ hwf nF hB;unfold aQ
 go_enter Tryz.func32,Tryz.ntmps32
 go_wp2_with fail
 refine (ML.out _ HB.out).mono ?_;rintro _ w1 ⟨rfl,hb1⟩;have dZ:Hid _:=hb1;clear hb1
 go_wp2_with fail
 refine (DI.out _ (nn.out.below dZ.out) (qx.out.on (dZ.out.mono (by simp)))).mono ?_;rintro _ w2 ⟨v',rfl,hfr,rN⟩;have hb2:Below w.heap.size w w2:=HB.out.trans (((dZ.out.mono (by simp)).trans ((nn.out.below dZ.out).fr hfr)).mono (by omega));obtain⟨xa,xc,hv⟩:=aG rN.row;subst hv
 have y2:w2.cell? ⟨w.heap.size+2,4,none⟩=some (.slice xa (t.wW regs news 0).length xc):=by rw[aa rN.blk];rfl
 have hcv:=Pv w2 _ _ _ rN.row;have eC:Hid _:=hb2;clear hfr rN hb2 DI nn qx ML dZ HB
 go_wp2
 go_ret
 exact⟨rfl,eC.out⟩
theorem Db (w:World) (x1:Option Addr) (n1 c1:Nat) (x2:Option Addr) (n2 c2:Nat) (ns:List NR) (op:List Int) (hT:bB w (.slice x1 n1 c1) (.slice x2 n2 c2) ns op) (ho:xK ns op) (hl:ns.length<=9000) (uO:∀ n∈ns,n.small) (n0:NR) (h0:ns[ns.length-1]?=some n0) (hB:n0.aL<=9000) (hat:∀ n∈ns,n.at_<n0.aL) (hsz:ij [] (ns.map atR)) (E fs:List Nat) (hE:E=sH [] (List.range n0.aL) ns) (hfs:fs=bf E (bw ns op))
  (AY:List NR) (h2:∀ (k:Nat) n r,ns[k]?=some n->(eJ E fs ns)[k]?=some r->AY.drop k=fo n r::AY.drop (k+1)/\(n.form=4->0<=r)) (X4:AY.length=ns.length) (Ho:ij [] AY) :
  Calls Tryz.prog 31 #[aQ (.slice x1 n1 c1) (.slice x2 n2 c2)] w λe w'=>∃ y1 m1 d1 y2 m2 d2,e=.returned (.agg #[.slice y1 m1 d1,.slice y2 m2 d2])/\zL w' ⟨.slice y1 m1 d1,.slice y2 m2 d2,eJ E fs ns,iB (aU [] AY) ns n0 fs.length⟩/\Below w.heap.size w w':=by
 have hrl:(eJ E fs ns).length=ns.length:=by unfold eJ;rw[List.length_map]
 have kJ:(iB (aU [] AY) ns n0 fs.length).length=fs.length:=by unfold iB;rw[List.length_map,List.length_range]
 have hfl:fs.length<=9000:=by have:=qD E (bw ns op);rw[lN,ho.1] at this;rw[hfs];omega
 have X3:=λ(W:World) (hb:Below w.heap.size w W)=>AX W x1 n1 c1 x2 n2 c2 ns op (hT.below hb) ho hl uO n0 h0 hB hat hsz E fs hE hfs
 have hne:=λ(W:World) (hb:Below w.heap.size w W) (rv:Value) (Cy:W.ownsRow 0 3 1 rv (eJ E fs ns).length (gS (eJ E fs ns)))=>Fo W x1 n1 c1 x2 n2 c2 ns op (hT.below hb) hl uO n0 h0 rv (eJ E fs ns) Cy hrl fs.length hfl AY h2 X4 Ho
 unfold aQ at X3 hne;unfold aQ;have RA:Hid _:=X3;have Mz:Hid _:=hne;have M9:Hid _:=hrl;have HNL:Hid _:=kJ;generalize iB (aU [] AY) ns n0 fs.length=news at *;generalize eJ E fs ns=regs at *;generalize fs.length=cn at *;generalize ns.length=m at *;clear X3 hne hrl kJ hT ho uO h0 hat hsz hE hfs h2 X4 Ho;obtain⟨WB,sE⟩:∃ WB,WB=(w.alloc (.cells #[.slice x1 n1 c1,.slice x2 n2 c2] 62)).alloc (.cells #[.slice none 0 0,.slice none 0 0] 73):=⟨_,rfl⟩
 have hBX:Below w.heap.size w WB:=by rw[sE];exact cX (cX (Below.refl _ _) _) _
 have ko:WB.heap[w.heap.size]?=some (.cells #[.slice x1 n1 c1,.slice x2 n2 c2] 62 (0,0)):=by
  have h2:=cX (Below.refl (w.alloc (.cells #[.slice x1 n1 c1,.slice x2 n2 c2] 62)).heap.size (w.alloc (.cells #[.slice x1 n1 c1,.slice x2 n2 c2] 62))) (.cells #[.slice none 0 0,.slice none 0 0] 73);rw[sE,h2.block _ (by simp)];exact aj _ _
 have hk1:WB.heap[w.heap.size+1]?=some (.cells #[.slice none 0 0,.slice none 0 0] 73 (0,0)):=by
  have:=aj (w.alloc (.cells #[.slice x1 n1 c1,.slice x2 n2 c2] 62)) (.cells #[.slice none 0 0,.slice none 0 0] 73 (0,0));rw[sE];simpa using this
 have eE:Hid _:=hBX;have KJ:Hid _:=ko;have GL:Hid _:=hk1;have Qx:Hid _:=sE;have mr:w.heap.size+1<WB.heap.size:=af hk1;clear hBX ko hk1 sE
 go_enter Tryz.func31,Tryz.ntmps31
 go_wp2_with fail
 rw[<- Qx.out];refine Calls.mono (RA.out WB eE.out) ?_;rintro _ w1 ⟨rv,rfl,hr1,hb1⟩;have hk:=(hb1.block _ (af KJ.out)).trans KJ.out
 have a0:w1.cell? ⟨w.heap.size,0,none⟩=some (.slice x1 n1 c1):=by rw[aa hk];rfl
 have a1:w1.cell? ⟨w.heap.size,1,none⟩=some (.slice x2 n2 c2):=by rw[aa hk];rfl
 have al:=af hk
 have Pw:w1.ownsRow 0 3 1 rv regs.length (gS regs):=by rw[M9.out];exact dL hr1 (λ_ _=>Nat.zero_le _)
 have hnc:=Mz.out w1 (eE.out.trans (hb1.mono eE.out.size)) rv Pw;obtain⟨y1,d1,Cy⟩:=aG hr1;subst Cy;have IB:Hid _:=hr1;have ab1:Hid _:=Pw;have dZ:Hid _:=hb1;clear hk Pw hr1 hb1 RA Mz
 go_wp2_with fail
 refine Calls.mono hnc ?_;rintro _ w2 ⟨av,rfl,dV,hb2⟩;have JM:Hid _:=aB ab1.out hb2;have mi:=dZ.out.trans (hb2.mono dZ.out.size);have hk2:=(mi.block _ (af GL.out)).trans GL.out
 have r0:w2.cell? ⟨w.heap.size+1,0,none⟩=some (.slice none 0 0):=by rw[aa hk2];rfl
 have r1:w2.cell? ⟨w.heap.size+1,1,none⟩=some (.slice none 0 0):=by rw[aa hk2];rfl
 have f0:=ag hk2 0;have f1:=ag hk2 1;have rl:=af hk2;obtain⟨y2,d2,ZF⟩:=aG dV;subst ZF;have HN2:Hid _:=dV;have eC:Hid _:=eE.out.trans (mi.mono eE.out.size);have pj:Hid _:=hk2;have WH:=hb2.size;have hW1:=dZ.out.size;clear hb2 dV mi hk2 hnc a0 a1 al
 go_wp2
 obtain⟨WF,QK⟩:∃ WF,WF=(w2.setCell ⟨w.heap.size+1,0,none⟩ (.slice y1 m d1)).setCell ⟨w.heap.size+1,1,none⟩ (.slice y2 cn d2):=⟨_,rfl⟩
 have hF:WF.heap[w.heap.size+1]?=some (.cells #[.slice y1 m d1,.slice y2 cn d2] 73 (0,0)):=by rw[QK];exact aA (aA pj.out 0 _) 1 _
 have u0:WF.cell? ⟨w.heap.size+1,0,none⟩=some (.slice y1 m d1):=by rw[aa hF];rfl
 have u1:WF.cell? ⟨w.heap.size+1,1,none⟩=some (.slice y2 cn d2):=by rw[aa hF];rfl
 rw[<- QK];refine bodyPost_ret (v:=.agg #[.slice y1 m d1,.slice y2 cn d2]) (by simp[results,Tryz.results31,go_sem,u0,u1]) rfl ⟨_,_,_,_,_,_,rfl,⟨?_,?_⟩,?_⟩
 ·rw[QK]
  refine ay JM.out (λk hk=>?_);have h1:=(World.ownsRow.lt IB.out k hk).1;rw[aq _ _ (by simp only;omega),aq _ _ (by simp only;omega)]
 ·rw[QK]
  have hn:=dL HN2.out (base':=0) (λ_ _=>Nat.zero_le _);simp only;rw[HNL.out];refine ay hn (λk hk=>?_);have h1:=(World.ownsRow.lt HN2.out k hk).1;rw[aq _ _ (by simp only;omega),aq _ _ (by simp only;omega)]
 ·rw[QK]
  exact eC.out.trans (fB (fB (Below.refl _ _) (by omega)) (by omega))
def mf (ns:List NR) (n0:NR):List Nat:=sH [] (List.range n0.aL) ns
def jx (e:PT) (ns:List NR) (n0:NR):List Nat:=bf (mf ns n0) (bw ns (opn e 0))
def fM (e:PT) (ns:List NR) (n0:NR):List Int:=eJ (mf ns n0) (jx e ns n0) ns
def oG (e:PT) (ns:List NR) (n0:NR):List Ty:=aU [] (j9 (mf ns n0) (jx e ns n0) ns)
def fN (e:PT) (ns:List NR) (n0:NR):List Int:=iB (oG e ns n0) ns n0 (jx e ns n0).length
structure X7 (e:PT) (ns:List NR) (n0:NR):Prop where
 na:NA [] e 0 ns
 last:ns[ns.length-1]?=some n0
 aL:n0.aL<=3000
 at_:∀ n∈ns,n.at_<n0.aL
 pos:∃ lo hi,bG e ns lo hi
mutual
theorem bG.all:∀ {t:PT} {ns:List NR} {lo hi:Nat},bG t ns lo hi->∀ n∈ns,lo<=n.at_/\n.at_<hi
 | .num p _,ns,lo,hi,h,n,hn=>by simp only[bG] at h;obtain⟨m,rfl,h1,h2,h3,h4⟩:=h;simp only[List.mem_singleton] at hn;subst hn;omega
 | .name p _,ns,lo,hi,h,n,hn=>by simp only[bG] at h;obtain⟨m,rfl,h1,h2,h3,h4⟩:=h;simp only[List.mem_singleton] at hn;subst hn;omega
 | .node p _ _ _ kids,ns,lo,hi,h,n,hn=>by
  simp only[bG] at h;obtain⟨ks,m,rfl,h1,h2,h3,h4,h5⟩:=h
  rcases List.mem_append.1 hn with hn | hn
  ·have:=ba.all h3 n hn;omega
  ·simp only[List.mem_singleton] at hn;subst hn;omega
theorem ba.all:∀ {ts:List PT} {ns:List NR} {lo hi:Nat},ba ts ns lo hi->∀ n∈ns,lo<=n.at_/\n.at_<hi
 | [],ns,lo,hi,h,n,hn=>by simp only[ba] at h;rw[h.1] at hn;simp at hn
 | t::r,ns,lo,hi,h,n,hn=>by
  simp only[ba] at h;obtain⟨a,c,mid,rfl,h1,h2⟩:=h;have hl:=h1.lt;have hr:=h2.le
  rcases List.mem_append.1 hn with hn | hn
  ·have:=bG.all h1 n hn;omega
  ·have:=ba.all h2 n hn;omega
end
theorem nN {t:PT} {ns:List NR} {lo hi:Nat} (h:bG t ns lo hi):∃ n0,ns[ns.length-1]?=some n0/\n0.aL<=hi/\∀ n∈ns,n.at_<n0.aL:=by
 cases t with
 | num p s=>simp only[bG] at h;obtain⟨m,rfl,h1,h2,h3,h4⟩:=h;exact⟨m,rfl,h4,λn hn=>by simp only[List.mem_singleton] at hn;subst hn;omega⟩
 | name p s=>simp only[bG] at h;obtain⟨m,rfl,h1,h2,h3,h4⟩:=h;exact⟨m,rfl,h4,λn hn=>by simp only[List.mem_singleton] at hn;subst hn;omega⟩
 | node p k nm rg kids =>
  simp only[bG] at h;obtain⟨ks,m,rfl,h1,h2,h3,h4,h5⟩:=h;refine⟨m,by simp,h5,λn hn=>?_⟩
  rcases List.mem_append.1 hn with hn | hn
  ·exact (h3.all n hn).2
  ·simp only[List.mem_singleton] at hn;subst hn;omega
theorem zN (E:List Nat) (ns:List NR):∀ op:List Int,(bf E (bw ns op)).length<=(op.filterMap (cw ns)).length
 | []=>by simp[bw,bf]
 | x::r=>by
  have ih:=zN E ns r;unfold bf at ih ⊢;simp only[bw,List.map_cons] at ih ⊢;rw[List.filter_cons,List.filterMap_cons];simp only[List.length_map] at ih ⊢
  cases h:ns[x.toNat]? with
  | none =>
   have hx:cw ns x=none:=by unfold cw;rw[h]
   have h4:(Gm.form==4 && aX E Gm.at_==Gm.at_)=false:=by simp[Gm]
   rw[hx,Option.getD_none,h4];exact ih
  | some n =>
   rw[Option.getD_some]
   by_cases h4:n.form=4
   ·have hx:cw ns x=some n.at_:=by unfold cw;rw[h];simp only;rw[if_pos h4]
    rw[hx];simp only[List.length_cons]
    split
    ·simp only[List.length_cons];omega
    ·omega
   ·have hx:cw ns x=none:=by unfold cw;rw[h];simp only;rw[if_neg h4]
    have h5:(n.form==4 && aX E n.at_==n.at_)=false:=by simp[h4]
    rw[hx,h5];exact ih
theorem Fw {e:PT} {ns:List NR} {n0:NR} (h:NA [] e 0 ns):(jx e ns n0).length<=e.bz:=by
 have h1:=zN (mf ns n0) ns (opn e 0);rw[ve ns e [] 0 ns h (λj _=>by rw[Nat.zero_add]),List.length_map,Cp] at h1;exact h1
theorem SB (row:List Nat) (x:Nat):-1<=gW row x/\gW row x<=row.length:=by
 unfold gW
 cases h:row.findIdx? (·==x) with
 | some i=>have:=(List.findIdx?_eq_some_iff_getElem.1 h).1;simp only;omega
 | none=>simp only;omega
theorem J9 (e:PT) (ns:List NR) (n0:NR) (hl:(jx e ns n0).length<=100):(∀ i,jW (fM e ns n0) i<=9999)/\∀ i,-1<=jW (fM e ns n0) i:=by
 have key:∀ i,-1<=jW (fM e ns n0) i/\jW (fM e ns n0) i<=100:=λi=>by
  unfold jW fM eJ;rw[List.getElem?_map]
  cases ns[i]? with
  | none=>simp
  | some n =>
   simp only[Option.map_some,Option.getD_some]
   split
   ·have:=SB (jx e ns n0) (aX (mf ns n0) n.at_);omega
   ·omega
 exact⟨λi=>by have:=key i;omega,λi=>(key i).1⟩
theorem L8 (E fs:List Nat) (ns:List NR) (k:Nat) (n:NR) (r:Int) (hn:ns[k]?=some n) (hr:(eJ E fs ns)[k]?=some r):(j9 E fs ns).drop k=fo n r::(j9 E fs ns).drop (k+1):=by
 have hk:k<(j9 E fs ns).length:=by unfold j9;rw[List.length_map];exact (List.getElem?_eq_some_iff.1 hn).1
 rw[List.drop_eq_getElem_cons hk]
 congr 1
 have h1:(j9 E fs ns)[k]?=some (j9 E fs ns)[k]:=List.getElem?_eq_getElem hk;unfold j9 eJ at *;rw[List.getElem?_map,hn] at h1 hr;simp only[Option.map_some,Option.some.injEq] at h1 hr;rw[<- h1,hr]
theorem AZ (s:ByteArray) (hs:s.size<=3000) (e:PT) (hp:PE false (tokens s.data.toList) e []) (Px:dF e=(0,0)) :
  ∃ ns n0,X7 e ns n0/\CV (fM e ns n0) (fN e ns n0) ns (oG e ns n0)/\∀ w,Lib.TabIs Tryz.prog w "internal/strconv.uint64pow10" .u64 Lib.pow10Tab->Calls Tryz.prog 16 #[.string s] w λv w'=>v=.returned (.tuple #[.string (bs (e.wW (fM e ns n0) (fN e ns n0) 0)),.int .i64 (0:Nat)])/\Below w.heap.size w w':=by
 obtain⟨ns,aO,Gn⟩:=tS (len:=s.size) hp;have hps:=D3 (ae:=false) (len:=s.size) hp (xZ s.data.toList);have aay:=Gn;rw[Gn] at hps;obtain⟨n0,hlast,ab2,hat⟩:=nN hps;have hN:X7 e ns n0:=⟨aO,hlast,by omega,hat,_,_,hps⟩;have hwf:=hp.wf
 have hc1:(dF e).1=0:=by rw[Px]
 obtain⟨U,ux,_⟩:=Wo hwf hc1;obtain⟨⟨IK,hnn⟩,_⟩:=PE.plain hp (fj _);have jQ:=(hp.bQ (fj _)).1
 have Py:e.bz<=100:=by
  unfold dF at hc1
  split at hc1
  ·simp at hc1
  ·omega
 have hfl:=Fw (n0:=n0) aO;have hL:CV (fM e ns n0) (fN e ns n0) ns (oG e ns n0)/\ij [] (ns.map atR)/\ij [] (j9 (mf ns n0) (jx e ns n0) ns):=Sv ux hnn aO hat (by show (jx e ns n0).length<=1000;omega);obtain⟨X8,Ha,Ho⟩:=hL;refine⟨ns,n0,hN,X8,λw htab=>?_⟩;have nF:=jU hp;have kJ:=aO.len;obtain⟨hb1,hb2⟩:=J9 e ns n0 (by omega)
 have aaz:(fN e ns n0).length<=150:=by unfold fN iB;rw[List.length_map,List.length_range];omega
 have JT:=λw=>CR s w hs e hp
 rw[Px,aay] at JT
 have jN:=λ(W:World) (x1:Option Addr) (n1 c1:Nat) (x2:Option Addr) (n2 c2:Nat) (hT:bB W (.slice x1 n1 c1) (.slice x2 n2 c2) ns (opn e 0))=>Db W x1 n1 c1 x2 n2 c2 ns (opn e 0) hT (xT aO) (by omega) (aO.small (λ_ h=>by simp at h) (by omega)) n0 hlast (by omega) hat Ha (mf ns n0) (jx e ns n0) rfl rfl (j9 (mf ns n0) (jx e ns n0) ns) (λk n r hn hr=>⟨L8 _ _ ns k n r hn hr,λh4=>by
  have h1:=(X8.pr k n hn).1 h4
  have h2:jW (fM e ns n0) k=r:=by unfold jW fM;rw[hr];rfl
  rw[h2] at h1;exact h1.1⟩) (by unfold j9;rw[List.length_map]) Ho
 have hwp:=λ(W:World) (hb:Below w.heap.size w W) (x1:Option Addr) (n1 c1:Nat) (x2:Option Addr) (n2 c2:Nat) (y1:Option Addr) (m1 d1:Nat) (y2:Option Addr) (m2 d2:Nat) (hT:bB W (.slice x1 n1 c1) (.slice x2 n2 c2) ns (opn e 0)) (hL:zL W ⟨.slice y1 m1 d1,.slice y2 m2 d2,fM e ns n0,fN e ns n0⟩)=>IJ W y1 m1 d1 y2 m2 d2 (fM e ns n0) (fN e ns n0) hL ⟨aaz,hb1⟩ hb2 (by unfold fM eJ;rw[List.length_map];omega) x1 n1 c1 x2 n2 c2 ns (opn e 0) e hT (Lib.tabBelow_of_tabIs htab W hb) aO.G6 jQ hwf kJ.symm (by omega)
 unfold aQ at JT jN hwp;have HRP:Hid _:=JT;have Dt:Hid (∀ (W:World) (x1:Option Addr) (n1 c1:Nat) (x2:Option Addr) (n2 c2:Nat),bB W (.slice x1 n1 c1) (.slice x2 n2 c2) ns (opn e 0)->Calls Tryz.prog 31 #[.agg #[.slice x1 n1 c1,.slice x2 n2 c2]] W λv w'=>∃ y1 m1 d1 y2 m2 d2,v=.returned (.agg #[.slice y1 m1 d1,.slice y2 m2 d2])/\zL w' ⟨.slice y1 m1 d1,.slice y2 m2 d2,fM e ns n0,fN e ns n0⟩/\Below W.heap.size W w'):=jN;have HWP:Hid _:=hwp;generalize e.wW (fM e ns n0) (fN e ns n0) 0=TX at *;generalize fM e ns n0=regs at *;generalize fN e ns n0=news at *;clear hp hps Gn aay hlast ab2 hat hN hwf hc1 ux IK hnn jQ Py hfl X8 Ha Ho nF kJ hb1 hb2 aaz JT jN hwp htab Px aO
 go_enter Tryz.func16,Tryz.ntmps16
 go_wp2_with fail
 refine Calls.mono (HRP.out _) ?_;rintro _ w1 ⟨x1,n1,c1,x2,n2,c2,ns',rfl,hb1,oN,_,hns⟩;have ab3:ns'=ns:=hns.symm;subst ab3;have hA:Below w.heap.size w (w1.alloc (.cells #[.slice x1 n1 c1,.slice x2 n2 c2] 62)):=hb1.alloc hb1.size _;have rM:=oN.below (show Below w1.heap.size w1 (w1.alloc (.cells #[.slice x1 n1 c1,.slice x2 n2 c2] 62)) from (Below.refl _ _).alloc (Nat.le_refl _) _);have Um:=Dt.out _ x1 n1 c1 x2 n2 c2 rM;have hk:=aj w1 (.cells #[.slice x1 n1 c1,.slice x2 n2 c2] 62 (0,0));have D6:Hid _:=rM;have HA:Hid _:=hA;have HK:Hid _:=hk;clear hb1 oN hA rM hk hns HRP Dt
 go_wp2_with fail
 refine Calls.mono Um ?_;rintro _ w2 ⟨y1,m1,d1,y2,m2,d2,rfl,X8,hb2⟩;have mi:=HA.out.trans (hb2.mono HA.out.size);have hal:Below w2.heap.size w2 (w2.alloc (.cells #[.slice y1 m1 d1,.slice y2 m2 d2] 73)):=(Below.refl _ _).alloc (Nat.le_refl _) _;have Gl:Below w.heap.size w (w2.alloc (.cells #[.slice y1 m1 d1,.slice y2 m2 d2] 73)):=mi.alloc mi.size _;have hwc:=HWP.out _ Gl x1 n1 c1 x2 n2 c2 y1 m1 d1 y2 m2 d2 ((D6.out.below hb2).below hal) (X8.below hal);have hk2:=(hb2.block _ (af HK.out)).trans HK.out
 have a0:w2.cell? ⟨w1.heap.size,0,none⟩=some (.slice x1 n1 c1):=by rw[aa hk2];rfl
 have a1:w2.cell? ⟨w1.heap.size,1,none⟩=some (.slice x2 n2 c2):=by rw[aa hk2];rfl
 have al:=af hk2;have an:=Nat.ne_of_lt al;have jb:Hid _:=Gl;clear X8 hb2 mi hal Gl hk2 Um D6 HA HK HWP
 go_wp2_with fail
 refine Calls.mono hwc ?_;rintro _ w3 ⟨rfl,hb3⟩;have rI:Hid _:=jb.out.trans (hb3.mono jb.out.size);clear hb3 hwc jb a0 a1 al an
 go_wp2
 refine bodyPost_ret (v:=.tuple #[.string (bs TX),.int .i64 0]) (by simp[results,Tryz.results16,go_sem]) rfl ⟨rfl,rI.out⟩
theorem Dc:∀ (X:Vl) (v:MV) (m:MM),m.fault=0->(dz X v m).fault=0\/(dz X v m).fault=13
 | .n _,_,m,h=>Or.inl h
 | .p a b,v,m,h=>by
  simp only[dz]
  have hu:(m.use v).2.fault=0\/(m.use v).2.fault=13:=by
   unfold MM.use MM.stop
   split
   ·exact Or.inl h
   ·simp only;split
    ·exact Or.inl h
    ·first | exact Or.inr rfl | (rw[if_pos h];exact Or.inr rfl)
  have h1:(dz a (m.use v).1.a (m.use v).2).fault=0\/(dz a (m.use v).1.a (m.use v).2).fault=13:=by
   rcases hu with hu | hu
   ·exact Dc a _ _ hu
   ·rw[j7 a _ _ (by rw[hu];decide)];exact Or.inr hu
  rcases h1 with h1 | h1
  ·exact Dc b _ _ h1
  ·rw[j7 b _ _ (by rw[h1];decide)];exact Or.inr h1
theorem vL {m:MM}:∀ {T:Ty} {X:Vl} {v:MV},gP m.cells X v->cG m T v->dz X v m=m
 | _,.n _,_,_,_=>rfl
 | .n,.p a b,v,hr,hl=>by
  simp only[gP] at hr;simp only[cG] at hl;rw[hr.1] at hl;exact absurd hl.1 (by decide)
 | .p r A B,.p a b,v,hr,hl=>by
  obtain⟨u1,u2,u3⟩:=Iz hl;simp only[cG] at hl;obtain⟨hc,i,c,g,hv,hi,h3,h4,_,_,_⟩:=hl;simp only[gP] at hr;obtain⟨_,i',c',hv',hi',ha,hb⟩:=hr
  have hii:i'=i:=by omega
  subst hii
  have hcc:c'=c:=by rw[hi] at hi';exact (Option.some.inj hi').symm
  subst hcc
  have e2:m.cells.getD v.n.toNat c0=c':=by rw[hv,Int.toNat_natCast,List.getD_eq_getElem?_getD,hi];rfl
  have mG:=(List.getElem?_eq_some_iff.1 hi).1
  have e1:(m.use v).1=c':=by
   unfold MM.use;rw[if_neg (by rw[hc,hv];simp;omega),e2]
  simp only[dz];rw[u1,e1];rw[e1] at u2 u3;rw[vL ha u2,vL hb u3]
def Ka (R:Vl × cu) (m:MM) (v:Value) (E:Nat):Prop :=
 (E=13/\v=.agg #[.string ⟨#[]⟩,.int .i64 0,.int .i64 0,.int .i64 0,.int .i64 0])\/(R.2.e=12/\E=12/\v=.agg #[.string ⟨#[]⟩,.int .i64 0,.int .i64 0,.int .i64 0,.int .i64 0]) \/
  (R.2.e=0/\E=0/\v=.agg #[.string (bs R.1.txt),.int .i64 R.2.steps,.int .i64 R.2.cells,.int .i64 m.most,.int .i64 m.live])
theorem SC (fuel k:Nat) {t:PT} {T:Ty} (ux:WT [] t T) (hT:T.size<=63) (hr:t.iE) (hk:t.cnt<=k) :
  ∃ X,gP (mW fuel t [] 0 ((m0 k).opn (-1))).2.cells X (mW fuel t [] 0 ((m0 k).opn (-1))).1/\X.size<=63 /\
   Ka (ev fuel t.era [] ⟨0,0,0⟩) (mW fuel t [] 0 ((m0 k).opn (-1))).2 (zm (dz X (mW fuel t [] 0 ((m0 k).opn (-1))).1 (mW fuel t [] 0 ((m0 k).opn (-1))).2) X) (dz X (mW fuel t [] 0 ((m0 k).opn (-1))).1 (mW fuel t [] 0 ((m0 k).opn (-1))).2).fault /\
   (∀ T',jE [] t T'->(dz X (mW fuel t [] 0 ((m0 k).opn (-1))).1 (mW fuel t [] 0 ((m0 k).opn (-1))).2).fault≠13):=by
 have hlen:((m0 k).opn (-1)).named.length=k:=by simp[m0,MM.opn]
 have her:ER ((m0 k).opn (-1)).named ((m0 k).opn (-1)).cells [] [] [] 0:=λs T h=>by simp[look] at h
 have hs0:Sw fuel ⟨0,0,0⟩ ((m0 k).opn (-1)):=⟨rfl,rfl,rfl,Nat.zero_le _,rfl,by simp[m0,MM.opn]⟩;have hf:=kq fuel ux [] 0 ((m0 k).opn (-1)) hr her.ef (by rw[hlen];omega);have WZ:=Iy fuel ux [] 0 ((m0 k).opn (-1)) [] ⟨0,0,0⟩ hr her (by rw[hlen];omega) hs0
 have hlv:∀ T',jE [] t T'->BH ((m0 k).opn (-1)) (mW fuel t [] 0 ((m0 k).opn (-1))) 0 t.cnt T':=λT' h=>J3 fuel h [] 0 ((m0 k).opn (-1)) (λs U hs=>by simp[look] at hs) (by rw[hlen];omega) rfl (by simp[m0,MM.opn])
 generalize mW fuel t [] 0 ((m0 k).opn (-1))=x at hf WZ hlv ⊢;generalize ev fuel t.era [] ⟨0,0,0⟩=y at WZ ⊢
 rcases WZ with ⟨h1,h2,h3⟩ | hB | hD
 ·refine⟨y.1,h2,by rw[zq (cells:=x.2.cells) h3];exact hT,?_,λT' hw=>?_⟩
  ·obtain⟨c1,_,_,c4,c5,c6⟩:=rf y.1 x.1 x.2
   rcases Dc y.1 x.1 x.2 h1.f with h0 | X9
   ·right;right
    refine⟨h1.e,h0,?_⟩;unfold zm;rw[if_neg (λh=>h h0),c4,c1,h1.s,h1.c,c5,c6]
   ·left
    refine⟨X9,?_⟩;unfold zm;rw[if_pos (by rw[X9];decide)]
  ·rcases (hlv T' hw).ok with h12 | ⟨h0,hl⟩
   ·rw[h1.f] at h12;cases h12
   ·rw[vL h2 hl,h0];decide
 ·obtain⟨X,hX,ZU⟩:=xj hf.2
  have hne:x.2.fault≠0:=by rw[hB.2];decide
  refine⟨X,hX,by omega,?_,λT' hw=>?_⟩
  ·right;left
   rw[j7 X x.1 x.2 hne];refine⟨hB.1,hB.2,?_⟩;unfold zm;rw[if_pos hne]
  ·rw[j7 X x.1 x.2 hne,hB.2];decide
 ·obtain⟨X,hX,ZU⟩:=xj hf.2
  have hne:x.2.fault≠0:=by rw[hD];decide
  refine⟨X,hX,by omega,?_,λT' hw=>?_⟩
  ·left
   rw[j7 X x.1 x.2 hne];refine⟨hD,?_⟩;unfold zm;rw[if_pos hne]
  ·rcases (hlv T' hw).ok with h12 | ⟨h0,_⟩
   ·rw[hD] at h12;cases h12
   ·rw[hD] at h0;cases h0
theorem nO (s:ByteArray) (hs:s.size<=9000) (e:PT) (U:Ty) (hp:PE true (tokens s.data.toList) e []) (hc:dF e=(0,0)) (ux:WT [] e U) (hU:U.size<=63) (fuel:Nat) (hf:fuel<=20000) :
  ∃ (v:Value) (E:Nat),Ka (ev fuel e.era [] ⟨0,0,0⟩) (mW fuel e [] 0 ((m0 e.cnt).opn (-1))).2 v E/\(∀ T',jE [] e T'->E≠13)/\∀ w,Lib.TabIs Tryz.prog w "internal/strconv.uint64pow10" .u64 Lib.pow10Tab->Calls Tryz.prog 13 #[.string s,.int .i64 fuel] w λr w'=>r=.returned (.tuple #[v,.int .i64 E])/\Below w.heap.size w w':=by
 have hwf:=hp.wf;have nF:=jU hp;have hrg:=uz e (hp.bQ (fj _)).1 (hp.rK (nE _)).1;obtain⟨X,hX,ZU,dm,X9⟩:=SC fuel e.cnt ux hU hrg (Nat.le_refl _);refine⟨_,_,dm,X9,λw htab=>?_⟩
 obtain⟨S,a,b,c,d,hV⟩:∃ S a b c d,zm (dz X (mW fuel e [] 0 ((m0 e.cnt).opn (-1))).1 (mW fuel e [] 0 ((m0 e.cnt).opn (-1))).2) X=.agg #[.string S,.int .i64 a,.int .i64 b,.int .i64 c,.int .i64 d]:=by
  unfold zm;split
  ·exact⟨_,_,_,_,_,rfl⟩
  ·exact⟨_,_,_,_,_,rfl⟩
 rw[hV];refine E7 s fuel w e 0 S a b c d _ (λw=>?_) (λw' x1 n1 c1 x2 n2 c2 ns hb Z0 aO=>?_)
 ·have:=wP s w hs e hp
  rw[hc] at this;exact this
 ·have kJ:=aO.len
  refine Wn w' x1 n1 c1 x2 n2 c2 fuel hf S a b c d _ (λw'' aaA=>?_);have:=R2 x1 n1 c1 x2 n2 c2 fuel ns (opn e 0) hf (by omega) w'' (Z0.below aaA) (Lib.tabBelow_of_tabIs htab w'' (hb.trans (aaA.mono hb.size))) e aO.RR hwf hrg kJ.symm _ rfl X (by rw[kJ];exact hX) ZU;rw[kJ] at this;rw[hV] at this;exact this
mutual
theorem NA.rgn:∀ {scope:Sc} {t:PT} {base:Nat} {ns:List NR},NA scope t base ns->t.rK->∀ n∈ns,0<=n.region
 | _,.num p s,_,_,h,_,n,hn=>by simp only[NA] at h;subst h;rw[List.mem_singleton] at hn;subst hn;exact Int.le_refl _
 | _,.name p s,_,_,h,_,n,hn=>by simp only[NA] at h;subst h;rw[List.mem_singleton] at hn;subst hn;exact Int.le_refl _
 | _,.node p k nm rg kids,_,_,h,h3,n,hn=>by
  simp only[NA] at h;obtain⟨ks,aL,hk,rfl⟩:=h;simp only[PT.rK] at h3
  rcases List.mem_append.1 hn with hn | hn
  ·exact hk.rgn h3.2 n hn
  ·rw[List.mem_singleton] at hn;subst hn;simp only;omega
theorem cK.rgn:∀ {scope:Sc} {nm:List UInt8} {ts:List PT} {bs:List Bool} {base:Nat} {ns:List NR},cK scope nm ts bs base ns->n9 ts->∀ n∈ns,0<=n.region
 | _,_,[],_,_,_,h,_,n,hn=>by simp only[cK] at h;rw[h.2] at hn;simp at hn
 | _,_,_::_,[],_,_,h,_,n,hn=>by simp[cK] at h
 | _,_,t::r,b::bs,_,_,h,h3,n,hn=>by
  simp only[cK] at h;obtain⟨a,c,h1,h2,rfl⟩:=h;simp only[n9] at h3
  rcases List.mem_append.1 hn with hn | hn
  ·exact h1.rgn h3.1 n hn
  ·exact h2.rgn h3.2 n hn
end
theorem tj:∀ (l acc:List NR),(dr l acc).2.1=0\/(dr l acc).2.1=7
 | [],_=>Or.inl rfl
 | n::r,acc=>by
  simp only[dr]
  split
  ·split
   ·exact Or.inr rfl
   ·exact tj r _
  ·exact tj r _
theorem rB (L:List NR):∀ (l:List NR),(kz L l).1=0\/(kz L l).1=8
 | []=>Or.inl rfl
 | n::r=>by
  simp only[kz]
  split
  ·split
   ·split
    ·exact Or.inr rfl
    ·exact rB L r
   ·exact rB L r
  ·exact rB L r
theorem Pz (T:List Ty) (n:NR):uP T n=0\/uP T n=9\/uP T n=10:=by
 unfold uP
 split
 ·split
  ·exact Or.inl rfl
  ·exact Or.inr (Or.inl rfl)
 ·split
  ·split
   ·exact Or.inr (Or.inr rfl)
   ·exact Or.inl rfl
  ·exact Or.inl rfl
theorem Fx:∀ (ns:List NR) (T:List Ty),oV T ns=(0,0)\/(oV T ns).1=9\/(oV T ns).1=10
 | [],_=>Or.inl rfl
 | n::r,T=>by
  simp only[oV]
  split
  ·rename_i h
   rcases Pz (T++[cH T n]) n with h0 | h0 | h0
   ·exact absurd h0 h
   ·exact Or.inr (Or.inl h0)
   ·exact Or.inr (Or.inr h0)
  ·exact Fx r _
theorem Fy (ns:List NR) (op:List Int):((jm ns op).1=0/\oV [] ns=(0,0))\/(jm ns op).1=7\/(jm ns op).1=8\/(jm ns op).1=9\/(jm ns op).1=10:=by
 unfold jm
 split
 ·rename_i h
  rcases tj (bw ns op) [] with h0 | h0
  ·exact absurd h0 h
  ·exact Or.inr (Or.inl h0)
 ·split
  ·rename_i h
   rcases rB (dr (bw ns op) []).1 (bw ns op) with h0 | h0
   ·exact absurd h0 h
   ·exact Or.inr (Or.inr (Or.inl h0))
  ·rcases Fx ns [] with h0 | h0 | h0
   ·exact Or.inl ⟨by rw[h0],h0⟩
   ·exact Or.inr (Or.inr (Or.inr (Or.inl h0)))
   ·exact Or.inr (Or.inr (Or.inr (Or.inr h0)))
open Go.Lib (decDigits)
def Au (k:Nat):List UInt8:=35::decDigits k
def gf (raw:List Int) (e:PT) (s:fC):PT × fC :=
 (if (aT raw 12 s).1<4 then .node 0 .new [] (Au (aT raw 12 s).1) [e] else e,(aT raw 12 s).2)
def mq (raw:List Int) (k:Kw) (s:fC):List UInt8 × fC:=if k=.pair then (Au (aT raw 4 s).1,(aT raw 4 s).2) else ([],s)
def bt (raw:List Int):KE->fC->PT × fC
 | .num n,s=>gf raw (.num 0 (decDigits n)) s
 | .var n,s=>gf raw (.name 0 (aE n)) s
 | .n1 k a,s=>gf raw (.node 0 k [] (mq raw k s).1 [(bt raw a (mq raw k s).2).1]) (bt raw a (mq raw k s).2).2
 | .n2 k n a b,s =>
  let z:=mq raw k s
  let x:=bt raw a z.2
  let y:=bt raw b x.2
  gf raw (.node 0 k (cQ k n) z.1 [x.1,y.1]) y.2
 | .n3 k n a b c,s =>
  let z:=mq raw k s
  let x:=bt raw a z.2
  let y:=bt raw b x.2
  let u:=bt raw c y.2
  gf raw (.node 0 k (cQ k n) z.1 [x.1,y.1,u.1]) u.2
structure W6 (vs:List Nat) (x:KE) (t:Nat) (e:PT) (L:Nat):Prop where
 ok:e.ok true
 np:e.np=e
 bz:e.bz=x.bz
 wt:WT (wL vs) e (sS t)
 ev:∀ fuel,ev fuel e.era=ev fuel (x.pt [])
 lO:e.lO=(x.pt []).tidy
 len:e.tidy.length<=L
theorem Kb {k:Nat} (h:k<12):(Au k).length<=3:=by unfold Au;have:=iq k (by omega);simp;omega
theorem PA {k:Nat} (h:k<12):∃ d,Au k=35::d/\yh d 3:=⟨decDigits k,rfl,lS k 3 (Nat.le_trans (iq k (by omega)) (by omega))⟩
theorem jy (raw:List Int) (s:fC) {vs:List Nat} {x:KE} {t:Nat} {e:PT} {L M:Nat} (h:W6 vs x t e L) (hL:L+10<=M):W6 vs x t (gf raw e s).1 M:=by
 have hk:=bZ raw 12 s (by omega);unfold gf;simp only;generalize (aT raw 12 s).1=k at hk ⊢
 split
 ·have hr:=PA hk
  have hl:=Kb hk;refine⟨?_,?_,?_,.new h.wt,λfuel=>?_,?_,?_⟩
  ·simp[PT.ok,pW,bP,arity,h.ok,hr]
  ·simp[PT.np,dN,h.np]
  ·simp[PT.bz,ic,h.bz]
  ·simp only[PT.era,eI,if_true,List.headD_cons];exact h.ev fuel
  ·simp only[PT.lO,jH,if_true,List.headD_cons];exact h.lO
  ·have:=h.len
   have hne:Au k≠[]:=by unfold Au;simp
   simp[PT.tidy,bT,bh,bF,dn,Kw.bytes,hne];omega
 ·exact⟨h.ok,h.np,h.bz,h.wt,h.ev,h.lO,by have:=h.len;omega⟩
theorem vM (raw:List Int) {k:Kw} (h:k≠.pair) (s:fC):mq raw k s=([],s):=by unfold mq;rw[if_neg h]
theorem PB (raw:List Int):∀ {vs:List Nat} {x:KE} {t:Nat},KT vs x t->vs.length<=100->∀ s,W6 vs x t (bt raw x s).1 (x.len+4*x.bz+10*x.cnt):=by
 intro vs x t h
 induction h with
 | @num vs n h =>
  intro _ s;simp only[bt];refine jy raw s (L:=3) ⟨?_,rfl,rfl,.num,λ_=>rfl,?_,?_⟩ (by simp[KE.len,KE.bz,KE.cnt])
  ·simp only[PT.ok];exact lS _ 4 (Nat.le_trans (iq _ (by omega)) (by omega))
  ·simp only[PT.lO,KE.pt,PT.tidy,iP];rfl
  ·simp only[PT.tidy];exact Nat.le_trans (iq _ (by omega)) (by omega)
 | @var vs n t h =>
  intro hl s;simp only[bt];refine jy raw s (L:=3) ⟨?_,rfl,rfl,.name (Bo _ _ _ h (by omega)),λ_=>rfl,rfl,?_⟩ (by simp[KE.len,KE.bz,KE.cnt])
  ·simp only[PT.ok];exact jZ _
  ·simp[PT.tidy,aE]
 | @aP vs a b v t _ hl _ _ ha hb =>
  intro _ s;simp only[bt];have A:=ha (by omega) (mq raw .aP s).2;have B:=hb (by simp;omega) (bt raw a (mq raw .aP s).2).2;rw[vM raw (by decide)] at A B ⊢;simp only at A B ⊢;generalize (bt raw b (bt raw a s).2)=y at B ⊢;generalize (bt raw a s)=x at A ⊢;refine jy raw _ (L:=11+(a.len+4*a.bz+10*a.cnt)+(b.len+4*b.bz+10*b.cnt)) ⟨?_,?_,?_,?_,λfuel=>?_,?_,?_⟩ (by simp[KE.len,KE.bz,KE.cnt];omega)
  ·simp[PT.ok,pW,cQ,bP,arity,jZ,A.ok,B.ok]
  ·simp[PT.np,dN,A.np,B.np]
  ·simp[PT.bz,ic,KE.bz,A.bz,B.bz]
  ·exact .aP A.wt (by have:=B.wt;rw[iQ] at this;simpa [cQ] using this)
  ·simp only[PT.era,eI,KE.pt]
   refine iw ?_ rfl rfl ?_
   ·funext env st;simp only[gM,A.ev fuel,B.ev fuel]
   ·funext env st;simp only[bM,A.ev fuel,B.ev fuel]
  ·simp[PT.lO,jH,KE.pt,PT.tidy,bT,A.lO,B.lO,dn]
  ·have:=A.len;have:=B.len
   simp[PT.tidy,bT,bh,bF,dn,cQ,aE,Kw.bytes];omega
 | @di vs a b c t _ _ _ ha hb hc =>
  intro hl s;simp only[bt];have A:=ha hl (mq raw .di s).2;have B:=hb hl (bt raw a (mq raw .di s).2).2;have C:=hc hl (bt raw b (bt raw a (mq raw .di s).2).2).2;rw[vM raw (by decide)] at A B C ⊢;simp only at A B C ⊢;generalize (bt raw c (bt raw b (bt raw a s).2).2)=u at C ⊢;generalize (bt raw b (bt raw a s).2)=y at B ⊢;generalize (bt raw a s)=x at A ⊢;refine jy raw _ (L:=7+(a.len+4*a.bz+10*a.cnt)+(b.len+4*b.bz+10*b.cnt)+(c.len+4*c.bz+10*c.cnt)) ⟨?_,?_,?_,?_,λfuel=>?_,?_,?_⟩ (by simp[KE.len,KE.bz,KE.cnt];omega)
  ·simp[PT.ok,pW,cQ,bP,arity,A.ok,B.ok,C.ok]
  ·simp[PT.np,dN,A.np,B.np,C.np]
  ·simp[PT.bz,ic,KE.bz,A.bz,B.bz,C.bz];omega
  ·exact .di A.wt B.wt C.wt
  ·simp only[PT.era,eI,KE.pt]
   refine iw rfl ?_ ?_ ?_
   ·funext env st;simp only[mw,A.ev fuel,B.ev fuel,C.ev fuel]
   ·funext env st;simp only[eu,A.ev fuel,B.ev fuel,C.ev fuel]
   ·funext env st;simp only[bM,A.ev fuel,B.ev fuel,C.ev fuel]
  ·simp[PT.lO,jH,KE.pt,PT.tidy,bT,A.lO,B.lO,C.lO,dn]
  ·have:=A.len;have:=B.len;have:=C.len
   simp[PT.tidy,bT,bh,bF,dn,cQ,Kw.bytes];omega
 | @loop vs a b c t hl _ _ _ ha hb hc =>
  intro _ s;simp only[bt];have A:=ha (by omega) (mq raw .loop s).2;have B:=hb (by omega) (bt raw a (mq raw .loop s).2).2;have C:=hc (by simp;omega) (bt raw b (bt raw a (mq raw .loop s).2).2).2;rw[vM raw (by decide)] at A B C ⊢;simp only at A B C ⊢;generalize (bt raw c (bt raw b (bt raw a s).2).2)=u at C ⊢;generalize (bt raw b (bt raw a s).2)=y at B ⊢;generalize (bt raw a s)=x at A ⊢;refine jy raw _ (L:=13+(a.len+4*a.bz+10*a.cnt)+(b.len+4*b.bz+10*b.cnt)+(c.len+4*c.bz+10*c.cnt)) ⟨?_,?_,?_,?_,λfuel=>?_,?_,?_⟩ (by simp[KE.len,KE.bz,KE.cnt];omega)
  ·simp[PT.ok,pW,cQ,bP,arity,jZ,A.ok,B.ok,C.ok]
  ·simp[PT.np,dN,A.np,B.np,C.np]
  ·simp[PT.bz,ic,KE.bz,A.bz,B.bz,C.bz];omega
  ·exact .loop A.wt B.wt (by have:=C.wt;rw[iQ] at this;simpa [cQ] using this)
  ·simp only[PT.era,eI,KE.pt]
   refine iw rfl ?_ ?_ ?_
   ·funext env st;simp only[mw,A.ev fuel,B.ev fuel,C.ev fuel]
   ·funext env st;simp only[eu,A.ev fuel,B.ev fuel,C.ev fuel]
   ·funext env st;simp only[bM,A.ev fuel,B.ev fuel,C.ev fuel]
  ·simp[PT.lO,jH,KE.pt,PT.tidy,bT,A.lO,B.lO,C.lO,dn]
  ·have:=A.len;have:=B.len;have:=C.len
   simp[PT.tidy,bT,bh,bF,dn,cQ,aE,Kw.bytes];omega
 | @pair vs a b t h0 ht _ _ ha hb =>
  intro hl s;simp only[bt];have A:=ha hl (mq raw .pair s).2;have B:=hb hl (bt raw a (mq raw .pair s).2).2;have hk:=bZ raw 4 s (by omega);have hrg:(mq raw .pair s).1=Au (aT raw 4 s).1:=rfl;rw[hrg];generalize (aT raw 4 s).1=k at hk ⊢;generalize (bt raw b (bt raw a (mq raw .pair s).2).2)=y at B ⊢;generalize (bt raw a (mq raw .pair s).2)=x at A ⊢;have hr:=PA (k:=k) (by omega);have hll:=Kb (k:=k) (by omega);refine jy raw _ (L:=12+(a.len+4*a.bz+10*a.cnt)+(b.len+4*b.bz+10*b.cnt)) ⟨?_,?_,?_,?_,λfuel=>?_,?_,?_⟩ (by simp[KE.len,KE.bz,KE.cnt];omega)
  ·simp[PT.ok,pW,cQ,bP,arity,A.ok,B.ok,hr]
  ·simp[PT.np,dN,A.np,B.np]
  ·simp[PT.bz,ic,KE.bz,A.bz,B.bz];omega
  ·rw[iv ht h0]
   exact .pair A.wt B.wt (by rw[<- iv ht h0];have:=p9 t;omega)
  ·simp only[PT.era,eI,KE.pt]
   refine iw ?_ rfl rfl ?_
   ·funext env st;simp only[gM,A.ev fuel,B.ev fuel]
   ·funext env st;simp only[bM,A.ev fuel,B.ev fuel]
  ·simp[PT.lO,jH,KE.pt,PT.tidy,bT,A.lO,B.lO,dn]
  ·have:=A.len;have:=B.len
   have hne:Au k≠[]:=by unfold Au;simp
   simp[PT.tidy,bT,bh,bF,dn,cQ,Kw.bytes,hne];omega
 | @fst vs a p h0 hp _ ha =>
  intro hl s;simp only[bt];have A:=ha hl (mq raw .fst s).2;rw[vM raw (by decide)] at A ⊢;simp only at A ⊢;generalize (bt raw a s)=x at A ⊢;refine jy raw _ (L:=6+(a.len+4*a.bz+10*a.cnt)) ⟨?_,?_,?_,?_,λfuel=>?_,?_,?_⟩ (by simp[KE.len,KE.bz,KE.cnt];omega)
  ·simp[PT.ok,pW,bP,arity,A.ok]
  ·simp[PT.np,dN,A.np]
  ·simp[PT.bz,ic,KE.bz,A.bz]
  ·have:=A.wt;rw[iv hp h0] at this;exact .fst this
  ·simp only[PT.era,eI,KE.pt]
   refine iw rfl rfl rfl ?_
   funext env st;simp only[bM,A.ev fuel]
  ·simp[PT.lO,jH,KE.pt,PT.tidy,bT,A.lO,dn]
  ·have:=A.len
   simp[PT.tidy,bT,bh,bF,dn,Kw.bytes];omega
 | @snd vs a p h0 hp _ ha =>
  intro hl s;simp only[bt];have A:=ha hl (mq raw .snd s).2;rw[vM raw (by decide)] at A ⊢;simp only at A ⊢;generalize (bt raw a s)=x at A ⊢;refine jy raw _ (L:=6+(a.len+4*a.bz+10*a.cnt)) ⟨?_,?_,?_,?_,λfuel=>?_,?_,?_⟩ (by simp[KE.len,KE.bz,KE.cnt];omega)
  ·simp[PT.ok,pW,bP,arity,A.ok]
  ·simp[PT.np,dN,A.np]
  ·simp[PT.bz,ic,KE.bz,A.bz]
  ·have:=A.wt;rw[iv hp h0] at this;exact .snd this
  ·simp only[PT.era,eI,KE.pt]
   refine iw rfl rfl rfl ?_
   funext env st;simp only[bM,A.ev fuel]
  ·simp[PT.lO,jH,KE.pt,PT.tidy,bT,A.lO,dn]
  ·have:=A.len
   simp[PT.tidy,bT,bh,bF,dn,Kw.bytes];omega
 | @two vs k a b hk _ _ ha hb =>
  intro hl s
  have hkp:k≠.pair:=by rcases hk with rfl | rfl | rfl <;> decide
  have hkn:k≠.new:=by rcases hk with rfl | rfl | rfl <;> decide
  simp only[bt];have A:=ha hl (mq raw k s).2;have B:=hb hl (bt raw a (mq raw k s).2).2;rw[vM raw hkp] at A B ⊢;simp only at A B ⊢;generalize (bt raw b (bt raw a s).2)=y at B ⊢;generalize (bt raw a s)=x at A ⊢;refine jy raw _ (L:=8+(a.len+4*a.bz+10*a.cnt)+(b.len+4*b.bz+10*b.cnt)) ⟨?_,?_,?_,?_,λfuel=>?_,?_,?_⟩ (by rcases hk with rfl | rfl | rfl <;> simp[KE.len,KE.bz,KE.cnt] <;> omega)
  ·rcases hk with rfl | rfl | rfl <;> simp[PT.ok,pW,cQ,bP,arity,A.ok,B.ok]
  ·simp[PT.np,dN,A.np,B.np]
  ·rcases hk with rfl | rfl | rfl <;> simp[PT.bz,ic,KE.bz,A.bz,B.bz]
  ·exact .two hk A.wt B.wt
  ·simp only[PT.era,eI,KE.pt,if_neg hkn,if_neg hkp]
   refine iw ?_ rfl rfl ?_
   ·funext env st;simp only[gM,A.ev fuel,B.ev fuel]
   ·funext env st;simp only[bM,A.ev fuel,B.ev fuel]
  ·rcases hk with rfl | rfl | rfl <;> simp[PT.lO,jH,KE.pt,PT.tidy,bT,A.lO,B.lO,dn]
  ·have:=A.len;have:=B.len
   rcases hk with rfl | rfl | rfl <;> simp[PT.tidy,bT,bh,bF,dn,cQ,Kw.bytes] <;> omega
theorem tk (raw:List Int) (k:Kw) (s:fC):(mq raw k s).2.vars=s.vars/\s.at_<=(mq raw k s).2.at_/\(mq raw k s).2.at_<=s.at_+1:=by
 unfold mq
 split
 ·obtain⟨_,h2,h3,h4⟩:=bI raw 4 s
  exact⟨h2,h3,h4⟩
 ·exact⟨rfl,Nat.le_refl _,Nat.le_succ _⟩
theorem oH (raw:List Int):∀ (x:KE) (s:fC),(bt raw x s).2.at_<=s.at_+2*x.cnt
 | .num _,s=>by have:=(bI raw 12 s).2.2.2;simp only[bt,gf,KE.cnt];omega
 | .var _,s=>by have:=(bI raw 12 s).2.2.2;simp only[bt,gf,KE.cnt];omega
 | .n1 k a,s=>by
  have h1:=(tk raw k s).2.2;have h2:=oH raw a (mq raw k s).2;have h3:=(bI raw 12 (bt raw a (mq raw k s).2).2).2.2.2;simp only[bt,gf,KE.cnt];omega
 | .n2 k n a b,s=>by
  have h1:=(tk raw k s).2.2;have h2:=oH raw a (mq raw k s).2;have h3:=oH raw b (bt raw a (mq raw k s).2).2;have h4:=(bI raw 12 (bt raw b (bt raw a (mq raw k s).2).2).2).2.2.2;simp only[bt,gf,KE.cnt];omega
 | .n3 k n a b c,s=>by
  have h1:=(tk raw k s).2.2;have h2:=oH raw a (mq raw k s).2;have h3:=oH raw b (bt raw a (mq raw k s).2).2;have h4:=oH raw c (bt raw b (bt raw a (mq raw k s).2).2).2;have h5:=(bI raw 12 (bt raw c (bt raw b (bt raw a (mq raw k s).2).2).2).2).2.2.2;simp only[bt,gf,KE.cnt];omega
mutual
theorem IL:∀ e:PT,e.era.np=e.np.era
 | .num _ _=>rfl
 | .name _ _=>rfl
 | .node p k nm rg kids=>by
  simp only[PT.era,PT.np]
  split
  ·rw[<- Dd kids]
   cases eI kids with
   | nil=>rfl
   | cons a r=>rfl
  ·simp only[PT.np,Dd kids]
theorem Dd:∀ l:List PT,dN (eI l)=eI (dN l)
 | []=>rfl
 | t::r=>by simp only[eI,dN,IL t,Dd r]
end
mutual
theorem PD:∀ e:PT,e.np.lO=e.lO
 | .num _ _=>rfl
 | .name _ _=>rfl
 | .node p k nm rg kids=>by simp only[PT.lO,PT.np,Kc kids]
theorem Kc:∀ l:List PT,jH (dN l)=jH l
 | []=>rfl
 | t::r=>by simp only[jH,dN,PD t,Kc r]
end
end Go.Proofs.YtpicaknklgccoabGreatDoor
