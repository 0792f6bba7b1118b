import Derived.Test.YtpicaknklgccoaaGreatDoorK58
import Derived.Test.YtpicaknklgccoaaGreatDoorCards
import Derived.Test.YtpicaknklgccoaaGreatDoorTie
import Derived.ProofKit
import Derived.LaidMore
import Derived.Lib.LaidTab
import Derived.Stop.LaidErr
import Derived.OpenShut
import Derived.Deep.DeepHandedRow
import Derived.ChangeSlices
import Derived.Carry
import Derived.Deep.Slices
import Derived.Deep.Strs
set_option maxRecDepth 100000
namespace Go.Proofs.YtpicaknklgccoaaGreatDoor
open Go.ChangeShapes Go.WideShapes Go.ChangeAt Go.RowKit
open Go.Deep (open_slice choose_lt trod_struct3)
variable {w:World}
theorem Tryz.aed:Tryz.prog.globalNamed "internal/strconv.uint64pow10"=some 0:=by kernel_rfl
theorem Tryz.Uh:(Tryz.prog.globals[0]?).map (·.type)=some 251:=by kernel_rfl
theorem Tryz.WR:Tryz.prog.underlying 251=some (.array 20 233):=by kernel_rfl
theorem Tryz.Ui:Tryz.prog.underlying 233=some (.int .u64):=by kernel_rfl
theorem Uj (a:laidMet Tryz.prog Rows.allRow.laid w):Lib.TabIs Tryz.prog w "internal/strconv.uint64pow10" .u64 Lib.pow10Tab:=
 Lib.tabIs_of_head (rest:=[]) Tryz.aed Tryz.Uh Tryz.WR Tryz.Ui (by kernel_rfl) (by kernel_rfl) (show laidMet Tryz.prog [("internal/strconv.uint64pow10",Lib.tabData .u64 Lib.pow10Tab)] w from laidMet.tail (laidMet.tail a))
theorem WS:ownKnob Tryz.prog.godebug=none:=by kernel_rfl
theorem Tryz.Uk:laidOutB Tryz.prog=true:=by kernel_rfl
theorem Tryz.Ul:Tryz.prog.cellsOf 3=1:=by kernel_rfl
theorem Tryz.WU:Tryz.prog.cellsOf 40=3:=by kernel_rfl
theorem Tryz.Um:Tryz.prog.cellsOf 9=1:=by kernel_rfl
theorem aaa{H:Type}{x:TypeId×Value->H}{v}{d:DataW H}{p:List MemPlace}{r:Reach}{O:Nat}(j:Value.okWide Tryz.prog w r O 37 v)(h:DataW.Trod x Tryz.prog w 0 (λ_=>true) true 37 v d p):∃l,Ug w v l/\∀c∈l,c.2.1.size<=maxLen:=by
 obtain⟨V,e,y,rfl⟩:=okWide_slice Tryz.underlying37 j;obtain⟨C,P⟩:=h;rcases open_slice Tryz.underlying37 P with⟨f,_⟩|⟨a,E,F,m,n,D,Pl,f,_,X,Y,z,_,Q⟩
 ·obtain⟨rfl,rfl,rfl⟩:=f;exact⟨[],aD ⟨rfl,rfl⟩,by simp⟩
 ·obtain⟨rfl,rfl,rfl⟩:=f;simp only[bT]at z;have o:∀i,i<m->∃q:Int×ByteArray×Int,w.cell? (a.add (i*3))=some (.int .i64 q.1)/\cg w ((a.add (i*3)).block) ((a.add (i*3)).off+1) (.string q.2.1)/\cg w ((a.add (i*3)).block) ((a.add (i*3)).off+2) (.int .i64 q.2.2)/\q.2.1.size<=maxLen:=by
   intro i A;obtain⟨B,h1,h2⟩:=Q i A;rw[Tryz.WU]at h1;obtain⟨_,s,b⟩:=World.cells?_some h1;obtain⟨Z,y1,y2,k,_,_,G,I,J⟩:=trod_struct3 Tryz.underlying40 h2
   match B,s with
   |[v0,v1,v2],_=>
    simp[Tryz.Ul,Tryz.Um]at G I J;obtain⟨R,K,_,_⟩:=DataW.trod_int Tryz.underlying3 G;obtain⟨S,L,_,T⟩:=DataW.trod_string Tryz.underlying9 I;obtain⟨U,M,_,_⟩:=DataW.trod_int Tryz.underlying3 J;simp at K L M;subst K;subst L;subst M;exact⟨(R,S,U),by simpa [Addr.add] using (b 0 (by omega)),by simpa [Addr.add] using (b 1 (by omega)),by simpa [Addr.add] using (b 2 (by omega)),T⟩
  obtain⟨q,N⟩:=choose_lt o;have t:((List.range e).map q).length=e:=by simp
  refine⟨(List.range e).map q,aE ⟨a,y,by rw[t],by omega,λi c g=>?_⟩,λc g=>?_⟩
  ·have u:=(ae.1 g).1;rw[t]at u;rw[aC,iC u]at g;simp at g;subst g;have:=N i (by omega);exact⟨this.1,this.2.1,this.2.2.1⟩
  ·obtain⟨i,A,rfl⟩:=cM.1 g;exact (N i (by have:=nO.1 A;omega)).2.2.2
theorem GQ(H:Type)(f:TypeId×Value->H)(W)(g:Nat)(a)(B C:List (DataW H))(b:List MemPlace)(D:laidMet Tryz.prog Rows.allRow.laid W)(i:∀(j:Nat) t v,Tryz.f6.params[j]?=some t->a[j]?=some v->Value.okWide Tryz.prog W .any g t v)(u:DataW.Whole f Tryz.prog Tryz.f6.params.toList Rows.allSpec.vars false W a.toList B C b):Calls Tryz.prog 6 a W λe w=>∃v,e=.returned v/\Rows.allSpec.post f Tryz.prog Tryz.f6 false true false false W a v w:=by
 have d:=u;obtain⟨p,q,l,E,rfl,F,G⟩:=u;have I:=l;obtain⟨v0,J,y,K,L,P,m,rfl,rfl,z,M⟩:=trodAll_cons I;obtain⟨rfl,rfl,rfl⟩:=trodAll_nil M;obtain rfl:a=#[v0]:=by cases a;simp_all
 obtain⟨rfl,rfl⟩:=trodVars_none E;obtain⟨n,k,o⟩:=aaa (i 0 37 v0 rfl rfl) z;simp at d;have r:=λx N=>by simpa using d.lt x N
 refine (WQ v0 n W k o (Uj D)).mono λe w ⟨O,A⟩=>?_;subst O;have c:=Below.trod Tryz.Uk (by kernel_rfl) (of_decide_eq_true (by kernel_rfl)) z A r;have s:Rows.allSpec.fn H ([y]++[])={results:=[.lit (.bool true)],args:=[y]}:=rfl;refine⟨_,rfl,_,_,_,[],L,[],d,?_,?_,?_,A.frame _,λh=>by cases h⟩
 ·rw[s];exact trodAll_mk1 (shut_bool Tryz.underlying4 true)
 ·rw[s];exact trodAll_mk1 c
 ·rw[s];rfl
noncomputable def DC(os:Os):World:=World.doorLaid Tryz.prog 400 os
theorem WV(a:Os):laidMet Tryz.prog Rows.allRow.laid ((DC a).forCall (λ_ _=>0) ⟨#[],#[.slice none 0 0],[]⟩).memory:=
 laidMet_of_run' 8 (by kernel_rfl) (by kernel_rfl)
theorem Qz(c:Os){H:Type}(b:TypeId×Value->H):∃a,DataW.whole b Tryz.prog ((DC c).forCall (λ_ _=>0) ⟨#[],#[.slice none 0 0],[]⟩).memory Tryz.f6.params.toList Rows.allSpec.vars false #[Value.slice none 0 0].toList 8=some ([.nil],[],a):=
 ⟨[],by kernel_rfl⟩
theorem Mp(d:Os)(a:d.Started)(H:Type)(b:TypeId×Value->H)(F:Stop.Interp):ReturnsInHanded {} Tryz.checked d 6 .any ((OpenSpec.ofChange Rows.allSpec).preRow b Tryz.prog Tryz.f6 Rows.allRow.domain false Rows.allRow.laid) (((OpenSpec.ofChange Rows.allSpec).at F).post b Tryz.prog Tryz.f6 false true false false):=by
 obtain⟨h,i⟩:=Qz d b;refine returnsInHanded_of_row (C:=Tryz.checked) (s:=OpenSpec.ofChange Rows.allSpec) WS a (by kernel_rfl) Tryz.func6
  (witness_row_at (enc:=b) (C:=Tryz.checked) false (DC d) #[.slice none 0 0] rfl (by kernel_rfl) (by kernel_rfl) (by kernel_rfl)
   (OpenSpec.preRow_of_cond 8 i (by kernel_rfl) (λk j=>by cases j) (by kernel_rfl) (WV d))) ?_
 intro W e f l m c g n _ _ _ o _ _;exact GQ H b W e f l m c o g n
theorem Un:Rows.AllSaid:=
 OpenClaim.holds_of_cond 6 Tryz.f6 rfl rfl rfl rfl rfl rfl rfl ⟨rfl,rfl,rfl,rfl,rfl⟩ rfl rfl rfl rfl rfl (by kernel_rfl) Tryz.func6 (by kernel_rfl)
  (of_decide_eq_true (by kernel_rfl)) (by unfold Func.isWrapper;first|(rw[ah (by decide +kernel)];kernel_rfl)|(rw[ag (by decide +kernel)];exact⟨rfl,rfl⟩))
  (λc a H b _ F=>by rw[OpenClaim.pre_eq_preRow];exact Mp c a H b F)
theorem QA (f) (a:Func) (c:Tryz.pinned.checked.prog.funcNamed "lease/leaselaw.All"=some f) (b:Tryz.pinned.checked.prog.funcs[f]?=some a):
  false=Tryz.pinned.checked.prog.looks []/\∀(j:Nat) t,a.params[j]?=some t->Tryz.pinned.checked.prog.wantsStandIn t=false:=by
 obtain rfl:f=6:=dx ((show Tryz.prog.funcNamed "lease/leaselaw.All"=some 6 by kernel_rfl).symm.trans c) |>.symm;obtain rfl:a=Tryz.f6:=(dx (Tryz.func6.symm.trans b)).symm;refine⟨by kernel_rfl,λj t d=>?_⟩;obtain rfl:t=37:=by simpa using Array.mem_of_getElem? d
 exact (show Tryz.prog.wantsStandIn 37=false by kernel_rfl)
theorem all_card:Rows.AllCardSaid:=
 Claim7.holds_tied_plain_at .later [] _ _ _ _ Un (λ_ h=>by cases h) (by kernel_rfl) (λ_ h=>by cases h) all_row_tie rfl ⟨rfl,rfl⟩ (by kernel_rfl) rfl QA (by kernel_rfl)
