import Derived.Test.YtpicaknklgccoaaGreatDoorProg
import Derived.Test.YtpicaknklgccoaaGreatDoorK1
import Derived.WalkKit
import Derived.WalkSpells
import Derived.WalkLawsBesides
import Derived.Lib.Strings
import Derived.Lib.IndexBytes
import Derived.Deep.RegionWith
set_option maxHeartbeats 4000000
set_option maxRecDepth 100000
namespace Go.Proofs.YtpicaknklgccoaaGreatDoor
open Tryz
open Go.RowKit
variable {w a b c d x y K N:Prop}{z M:World}{v u T:Nat}{L:Value}{P:List Value}
abbrev au:=@bodyPost_ret
abbrev aM:=@Below.refl
abbrev bR:=@Lib.toList_data
abbrev bN:=@Value.slice.injEq
abbrev cA:=@World.ownsRow.lt
abbrev cI:=@info_parts
abbrev dG:=@wpList_append_own
abbrev dI:=@IntWalk.wrap64_in
abbrev iN:=@Lib.extract_data
abbrev lH:=@World.ownsRow_nil
abbrev mJ:=@ownsRow_pop
abbrev bg(w v:World):Prop:=Below w.heap.size w v
abbrev cg(w:World)(b k:Nat)(v:Value):Prop:=w.cell? ⟨b,k,none⟩=some v
theorem dR{A}{T}{f}(h:z.heap[v]?=some (.cells A T f))(e:A[u]?=some L):cg z v u L:=by show _=_;simp[World.cell?,h,e]
theorem ez{a:Type}(x:a):∃y,y=x:=⟨x,rfl⟩
theorem bY(c:w)(d:a)(k:Hid w->Hid a->b):b:=k c d
theorem fw(d:w)(e:a)(f:b)(k:Hid w->Hid a->Hid b->c):c:=k d e f
theorem fT(e:w)(f:a)(g:b)(h:c)(k:Hid w->Hid a->Hid b->Hid c->d):d:=k e f g h
theorem pd(f:w)(g:a)(h:b)(i:c)(e:d)(k:Hid w->Hid a->Hid b->Hid c->Hid d->x):x:=k f g h i e
theorem wC(g:w)(h:a)(i:b)(j:c)(e:d)(f:x)(k:Hid w->Hid a->Hid b->Hid c->Hid d->Hid x->y):y:=k g h i j e f
theorem Ms(g:w)(i:a)(j:b)(l:c)(e:d)(f:x)(h:y)(k:Hid w->Hid a->Hid b->Hid c->Hid d->Hid x->Hid y->K):K:=k g i j l e f h
theorem Mt(g:w)(j:a)(l:b)(m:c)(e:d)(f:x)(h:y)(i:K)(k:Hid w->Hid a->Hid b->Hid c->Hid d->Hid x->Hid y->Hid K->N):N:=k g j l m e f h i
theorem xW{G:Prop}(g:w)(l:a)(m:b)(n:c)(e:d)(f:x)(h:y)(i:K)(j:N)(k:Hid w->Hid a->Hid b->Hid c->Hid d->Hid x->Hid y->Hid K->Hid N->G):G:=k g l m n e f h i j
abbrev fp{n:Nat}{w:World}:=aM n w
abbrev wD{w:World}{a b c:Nat}:=lH w a b c
theorem drop_cons(s:ByteArray)(k:Nat)(h:k<s.size):s.data.toList.drop k=s[k]::s.data.toList.drop (k+1):=by
 rw[aW (by simpa using h)];rfl
theorem nQ(s:ByteArray)(k:Nat)(h:s.size<=k):s.data.toList.drop k=[]:=by
 rw[List.drop_eq_nil_iff];simpa using h
theorem UK(s:ByteArray)(k:Nat)(c d:Int)(h:k<s.size)(a:c<=(s[k].toNat:Int))(b:(s[k].toNat:Int)<=d):run c d (s.data.toList.drop k)=run c d (s.data.toList.drop (k+1))+1:=by
 rw[drop_cons s k h];simp[run,ug,a,b]
theorem QU(s:ByteArray)(k:Nat)(b c:Int)(h:k<s.size)(a:(s[k].toNat:Int)<b\/c<(s[k].toNat:Int)):run b c (s.data.toList.drop k)=0:=by
 rw[drop_cons s k h];have:ug b c s[k]=false:=by unfold ug;rcases a with a|a<;>simp<;>omega
 simp[run,this]
theorem gj{k:IntKind}{a b:Int}(h:a=b):Ending.returned (.int k a)=.returned (.int k b):=by rw[h]
theorem rF(s)(a:Nat)(b c:Int)(w)(h:s.size<=maxLen)(j:a<=s.size):Calls prog 166 #[.string s,.int .i64 a,.int .u8 b,.int .u8 c] w λe i=>e=.returned (.int .i64 (run b c (s.data.toList.drop a):Nat))/\i=w:=by
 unfold maxLen at h;go_in;go_wp2;go_loop [9] (λn=>∃k:Nat,a+k<=s.size/\n=.int .i64 k/\run b c (s.data.toList.drop a)=k+run b c (s.data.toList.drop (a+k))) (λn=>s.size-(intOf n).toNat)
 case atStart=>exact⟨0,by omega,rfl,by simp⟩
 case round=>
  obtain⟨k,l,rfl,g⟩:=hrel;have f:Hid (run b c (s.data.toList.drop a)=k+run b c (s.data.toList.drop (a+k))):=g;clear g;by_cases d:a+k<s.size
  ·go_wp2
   ·go_round
    case rel=>exact⟨k+1,by omega,by go_num,by rw[f.out,UK s (a+k) b c d ‹_› ‹_›];rw[aY a k 1];omega⟩
    case measure=>simp[intOf];omega
   ·go_ret;exact⟨gj (by rw[f.out,QU s (a+k) b c d (aE ‹_›)];simp),rfl⟩
   ·go_ret;exact⟨gj (by rw[f.out,QU s (a+k) b c d (aD ‹_›)];simp),rfl⟩
  ·go_wp2;go_ret;exact⟨gj (by rw[f.out,nQ s (a+k) (by omega)];simp[run]),rfl⟩
theorem Mu(s:ByteArray)(m:Nat):fk s.data.toList m=(decide (0<s.size)&&decide (s.size<=m)&&(decide (s.size=1)||(s.data.toList.head? !=some 48))):=by
 unfold fk;simp
theorem UL(s:ByteArray)(h:0<s.size):s.data.toList.head?=some s[0]:=by
 have:=drop_cons s 0 h;simp at this;rw[this];rfl
theorem jD(a b:UInt8):((a.toNat:Int)==(b.toNat:Int))=(a==b):=by
 rw[jd];simp;constructor
 ·intro h;apply UInt8.toNat_inj.1;omega
 ·intro h;rw[h]
theorem vq(a b:UInt8):((a.toNat:Int) !=(b.toNat:Int))=(a !=b):=by
 simp[bne,jD]
theorem kP{a b}(h:a=b):Ending.returned (.bool a)=.returned (.bool b):=by rw[h]
theorem Aj(s)(m:Nat)(w)(b:s.size<=maxLen)(h:m<=10):Calls prog 167 #[.string s,.int .i64 m] w λe c=>e=.returned (.bool (fk s.data.toList m))/\c=w:=by
 unfold maxLen at b;go_in;go_wp2
 ·go_ret;refine⟨kP ?_,rfl⟩;rw[Mu];have h1:s.size=1:=by omega
  simp[h1];omega
 ·go_ret;refine⟨kP ?_,rfl⟩;have a:0<s.size:=by assumption
  have h2:s.size<=m:=by assumption
  have h1:¬s.size=1:=by omega
  rw[Mu,UL s a];have d:((s.size:Int)==1)=false:=by simp;omega
  have f:((s[0].toNat:Int) !=48)=(s[0] !=48):=vq s[0] 48;have g:(some s[0] !=some (48:UInt8))=(s[0] !=48):=rfl;simp only[d,Bool.false_or,f,g];simp[a,h1,h2]
 ·go_ret;refine⟨kP ?_,rfl⟩;have h2:¬s.size<=m:=by assumption
  rw[Mu];simp[h2]
 ·go_ret;refine⟨kP ?_,rfl⟩;have h2:¬0<s.size:=by assumption
  rw[Mu];simp;omega
theorem yX(s:ByteArray)(k:Nat)(h:k<s.size):s.data.toList.take (k+1)=s.data.toList.take k++[s[k]]:=by
 rw[bQ (by simpa using h)];rfl
theorem UM(k:Nat)(h:k<=5):(10:Int) ^ k<=100000:=by
 match k,h with
 |0,_=>decide
 |1,_=>decide
 |2,_=>decide
 |3,_=>decide
 |4,_=>decide
 |5,_=>decide
theorem Eg(s)(w)(o:s.size<=5):Calls prog 134 #[.string s] w λe f=>e=.returned (.int .i64 (aQ s.data.toList))/\f=w:=by
 go_in;go_wp2;go_loop [3,4] (λn i=>∃k:Nat,k<=s.size/\i=.int .i64 k/\n=.int .i64 (aQ (s.data.toList.take k))) (λ_ i=>s.size-(intOf i).toNat)
 case atStart=>exact⟨0,by omega,rfl,rfl⟩
 case round=>
  obtain⟨k,p,rfl,rfl⟩:=hrel;have g:=Ec (s.data.toList.take k);have q:=UM (s.data.toList.take k).length (by simp;omega);obtain⟨m,a⟩:=ez (aQ (s.data.toList.take k));rw[<-a]at g;obtain⟨h,j⟩:-3000000<=m/\m<=3000000:=by omega
  by_cases d:k<s.size
  ·have b:aQ (s.data.toList.take (k+1))=if s[k]=35 then m else 10*m+(s[k].toNat:Int)-48:=by rw[yX s k d,Ah,a]
   have c:=s[k].toNat_lt;have l:Hid _:=c;clear c;rw[<-a];have r:Hid _:=a;clear a;go_wp2
   ·go_round
    case rel=>
     refine⟨k+1,by omega,by go_num,?_⟩;have e:((s[k].toNat:Int) !=35)=(s[k] !=35):=vq s[k] 35;have h1:((s[k].toNat:Int) !=35)=true:=by assumption
     rw[e]at h1;rw[b,ag (by simpa using h1)];have:=l.out;rw[dI (s[k].toNat:Int) (by omega),dI (10*m+(s[k].toNat:Int)) (by omega),dI _ (by omega)]
    case measure=>simp[intOf];omega
   ·go_round
    case rel=>
     refine⟨k+1,by omega,by go_num,?_⟩;have e:((s[k].toNat:Int) !=35)=(s[k] !=35):=vq s[k] 35;have h1:((s[k].toNat:Int) !=35)=false:=by assumption
     rw[e]at h1;rw[b,ah (by simpa using h1)]
    case measure=>simp[intOf];omega
  ·go_wp2;go_ret;exact⟨gj (by rw[cw (by simp;omega)]),rfl⟩
theorem QV(l:ByteArray)(j k:Nat)(a:j<=k)(b:k<l.size):(l.extract j (k+1)).data.toList=(l.extract j k).data.toList++[l[k]]:=by
 rw[iN,iN,show k+1-j=(k-j)+1 from by omega,bQ (by simp;omega)]
 congr 2
 rw[List.getElem_drop];simp[show j+(k-j)=k from by omega];rfl
theorem Fm(l s:ByteArray)(j k:Nat)(d:k<l.size)(c:((l[k].toNat:Int)==32)=true)(b:((l.extract j k).toList==s.toList)=false):mB s.data.toList (l.extract j k).data.toList (l.data.toList.drop k)=mB s.data.toList (l.extract (k+1) (k+1)).data.toList (l.data.toList.drop (k+1)):=by
 rw[drop_cons l k d];have e:((l[k].toNat:Int)==32)=(l[k]==32):=jD l[k] 32;rw[e]at c;rw[bR,bR]at b;simp only[mB];rw[ah (by simpa using c),b,iN (a:=k+1)];simp
theorem Kn(l s:ByteArray)(j k:Nat)(c:k<l.size)(b:((l[k].toNat:Int)==32)=true)(a:((l.extract j k).toList==s.toList)=true):mB s.data.toList (l.extract j k).data.toList (l.data.toList.drop k)=true:=by
 rw[drop_cons l k c];have e:((l[k].toNat:Int)==32)=(l[k]==32):=jD l[k] 32;rw[e]at b;rw[bR,bR]at a;simp only[mB];rw[ah (by simpa using b),a];rfl
theorem Og(l s:ByteArray)(j k:Nat)(c:j<=k)(a:k<l.size)(b:((l[k].toNat:Int)==32)=false):mB s.data.toList (l.extract j k).data.toList (l.data.toList.drop k)=mB s.data.toList (l.extract j (k+1)).data.toList (l.data.toList.drop (k+1)):=by
 rw[drop_cons l k a];have e:((l[k].toNat:Int)==32)=(l[k]==32):=jD l[k] 32;rw[e]at b;rw[QV l j k c a];simp only[mB];rw[ag (by simpa using b)]
theorem Ko(l s:ByteArray)(j:Nat):mB s.data.toList (l.extract j l.size).data.toList (l.data.toList.drop l.size)=((l.extract j l.size).toList==s.toList):=by
 rw[nQ l l.size bS,bR,bR];rfl
theorem yY(l s)(w)(q:l.size<=100):Calls prog 133 #[.string l,.string s] w λe m=>e=.returned (.bool (mB s.data.toList [] l.data.toList))/\m=w:=by
 go_in;go_wp2
 go_loop [5,6] (λa i=>∃k j:Nat,k<=l.size+1/\j<=k/\i=.int .i64 k/\a=.int .i64 j/\
   mB s.data.toList [] l.data.toList=if k<=l.size then mB s.data.toList (l.extract j k).data.toList (l.data.toList.drop k) else false) (λ_ i=>l.size+1-(intOf i).toNat)
 case atStart=>exact⟨0,0,by omega,by omega,rfl,rfl,by simp⟩
 case round=>
  obtain⟨k,j,r,n,rfl,rfl,h⟩:=hrel;have c:Hid _:=h;clear h;by_cases b:k<l.size
  ·have o:(k==l.size)=false:=by simp;omega
   by_cases f:((l[k].toNat:Int)==32)=true
   ·go_wp2
    ·go_ret;refine⟨kP ?_,rfl⟩;rw[c.out,ah (by omega),Kn l s j k b f ‹_›]
    ·go_round
     case rel=>exact⟨k+1,k+1,by omega,by omega,by go_num,by go_num,by rw[c.out,ah (by omega),ah (by omega)];exact Fm l s j k b f ‹_›⟩
     case measure=>simp[intOf];omega
   ·have g:((l[k].toNat:Int)==32)=false:=by simpa using f
    go_wp2;go_round
    case rel=>exact⟨k+1,j,by omega,by omega,by go_num,by go_num,by rw[c.out,ah (by omega),ah (by omega)];exact Og l s j k n b g⟩
    case measure=>simp[intOf];omega
  ·by_cases p:k=l.size
   ·subst p;have d:=Ko l s j;go_wp2
    ·go_ret;refine⟨kP ?_,rfl⟩;rw[c.out,ah (by omega),d];symm;assumption
    ·go_round
     case rel=>exact⟨l.size+1,l.size+1,by omega,by omega,by go_num,by go_num,by rw[c.out,ah (by omega),ag (by omega),d];assumption⟩
     case measure=>simp[intOf]
   ·go_wp2;go_ret;exact⟨kP (by rw[c.out,ag (by omega)]),rfl⟩
theorem QW(s)(w)(d:s.size<=maxLen):Calls prog 114 #[.string s] w λe f=>e=.returned (.int .i64 (mH s.data.toList:Nat))/\f=w:=by
 unfold maxLen at d;go_in;go_wp2;go_loop [3,4] (λn i=>∃k:Nat,k<=s.size/\i=.int .i64 k/\n=.int .i64 (mH (s.data.toList.take k):Nat)) (λ_ i=>s.size-(intOf i).toNat)
 case atStart=>exact⟨0,by omega,rfl,rfl⟩
 case round=>
  obtain⟨k,j,rfl,rfl⟩:=hrel;have g:=QO (s.data.toList.take k);have h:mH (s.data.toList.take k)<=k:=by simp at g;omega
  by_cases b:k<s.size
  ·have a:mH (s.data.toList.take (k+1))=mH (s.data.toList.take k)+if s[k]==60 then 1 else 0:=by rw[yX s k b,Kb]
   have e:((s[k].toNat:Int)==60)=(s[k]==60):=jD s[k] 60;have c:Hid _:=e;clear e;go_wp2
   ·go_round
    case rel=>
     refine⟨k+1,by omega,by go_num,?_⟩;have h1:((s[k].toNat:Int)==60)=true:=by assumption
     rw[c.out]at h1;rw[a,ah h1];go_num
    case measure=>simp[intOf];omega
   ·go_round
    case rel=>
     refine⟨k+1,by omega,by go_num,?_⟩;have h1:((s[k].toNat:Int)==60)=false:=by assumption
     rw[c.out]at h1;rw[a,ag (by rw[h1];simp)];go_num
    case measure=>simp[intOf];omega
  ·go_wp2;go_ret;exact⟨gj (by rw[cw (by simp;omega)]),rfl⟩
def bs(l:List UInt8):ByteArray:=⟨l.toArray⟩
theorem iE(l):(bs l).data.toList=l:=rfl
theorem Bx{s}{l}(h:s.data.toList=l):s=bs l:=by subst h;cases s;rfl
theorem wL(s:ByteArray)(a n:Nat):(s.extract a (a+n)).data.toList=(s.data.toList.drop a).take n:=by
 rw[iN,show a+n-a=n from by omega]
def pR(s:ByteArray)(a:Nat)(n:Nat)(c:Cl):Value:=.agg #[.string (s.extract a (a+n)),.int .i64 a,.string (bs c.bytes)]
theorem fI(s:ByteArray):s.data.toList.length=s.size:=by simp
theorem Kp(s)(a:Nat)(w)(o:s.size<=9000)(p:a<s.size)(h1:0<run 97 122 (s.data.toList.drop a)):Calls prog 132 #[.string s,.int .i64 a] w λe d=>e=.returned (pR s a (bX (s.data.toList.drop a)).1 (bX (s.data.toList.drop a)).2)/\bg w d:=by
 have f:=pQ 97 122 (s.data.toList.drop a);have i:bX (s.data.toList.drop a)=(run 97 122 (s.data.toList.drop a),js ((s.data.toList.drop a).take (run 97 122 (s.data.toList.drop a))) (run 97 122 (s.data.toList.drop a))):=by unfold bX;rw[ah h1]
 have c:=rF s a 97 122;rw[i];simp only[dN]at f;rw[fI]at f;generalize run 97 122 (s.data.toList.drop a)=n at*;have b:=yY (bs [108,101,116,32,112,97,105,114,32,102,115,116,32,115,110,100,32,105,102,32,97,100,100,32,115,117,98,32,108,101,115,115,32,108,111,111,112,32,110,101,119]) (s.extract a (a+n));rw[iE,Kc,wL]at b;unfold js;cases h:xS ((s.data.toList.drop a).take n) with
 |some k=>
  rw[h]at b;have g:=r8 h;have j:=Bx (by rw[wL,g]);have m:Hid _:=j;clear h j g;go_in;go_wp2_with (first
   |(go_at_call_of 166 (Value.int IntKind.u8 97);refine (c _ (by unfold maxLen;omega) (by omega)).mono ?_;rintro e d ⟨rfl,rfl⟩)
   |(go_at_call 133;refine (b _ (by decide)).mono ?_;rintro e d ⟨rfl,rfl⟩))
  refine au (v:=.agg #[.string (s.extract a (a+n)),.int .i64 a,.string (s.extract a (a+n))]) (by simp[results,results132,go_sem]) rfl ⟨?_,fp.alloc bS _⟩;unfold pR;simp only[Cl.bytes];rw[m.out]
 |none=>
  rw[h]at b;by_cases l:n<=8
  ·go_in;go_wp2_with (first
    |(go_at_call_of 166 (Value.int IntKind.u8 97);refine (c _ (by unfold maxLen;omega) (by omega)).mono ?_;rintro e d ⟨rfl,rfl⟩)
    |(go_at_call 133;refine (b _ (by decide)).mono ?_;rintro e d ⟨rfl,rfl⟩))
   refine au (v:=.agg #[.string (s.extract a (a+n)),.int .i64 a,.string (bs Cl.wB.bytes)]) (by simp[results,results132,go_sem,bs,Cl.bytes]) rfl ⟨?_,fp.alloc bS _⟩
   first|rfl|simp only[pR,ah l]
  ·go_in;go_wp2_with (first
    |(go_at_call_of 166 (Value.int IntKind.u8 97);refine (c _ (by unfold maxLen;omega) (by omega)).mono ?_;rintro e d ⟨rfl,rfl⟩)
    |(go_at_call 133;refine (b _ (by decide)).mono ?_;rintro e d ⟨rfl,rfl⟩))
   refine au (v:=.agg #[.string (s.extract a (a+n)),.int .i64 a,.string (bs Cl.bad.bytes)]) (by simp[results,results132,go_sem,bs,Cl.bytes]) rfl ⟨?_,fp.alloc bS _⟩
   first|rfl|simp only[pR,ag l]
theorem Fo(s)(a:Nat)(w)(i:s.size<=9000)(j:a<s.size)(h1:run 97 122 (s.data.toList.drop a)=0)(h2:0<run 48 57 (s.data.toList.drop a)):Calls prog 132 #[.string s,.int .i64 a] w λe g=>e=.returned (pR s a (bX (s.data.toList.drop a)).1 (bX (s.data.toList.drop a)).2)/\bg w g:=by
 have d:=pQ 48 57 (s.data.toList.drop a);have h:bX (s.data.toList.drop a)=(run 48 57 (s.data.toList.drop a),if fk ((s.data.toList.drop a).take (run 48 57 (s.data.toList.drop a))) 4 then Cl.num else Cl.bad):=by
  unfold bX;rw[ag (by omega),ah h2]
 have b:=rF s a 97 122;have c:=rF s a 48 57;rw[h];rw[h1]at b;simp only[dN]at d;rw[fI]at d;generalize run 48 57 (s.data.toList.drop a)=n at*;have f:=Aj (s.extract a (a+n)) 4;rw[wL]at f;generalize fk ((s.data.toList.drop a).take n) 4=q at*;cases q
 all_goals
  go_in;go_wp2_with (first
   |(go_at_call_of 166 (Value.int IntKind.u8 97);refine (b _ (by unfold maxLen;omega) (by omega)).mono ?_;rintro e g ⟨rfl,rfl⟩)
   |(go_at_call_of 166 (Value.int IntKind.u8 48);refine (c _ (by unfold maxLen;omega) (by omega)).mono ?_;rintro e g ⟨rfl,rfl⟩)
   |(go_at_call 167;refine (f _ (by unfold maxLen;simp;omega) (by omega)).mono ?_;rintro e g ⟨rfl,rfl⟩))
 ·exact au (v:=.agg #[.string (s.extract a (a+n)),.int .i64 a,.string (bs Cl.bad.bytes)]) (by simp[results,results132,go_sem,bs,Cl.bytes]) rfl ⟨rfl,fp.alloc bS _⟩
 ·exact au (v:=.agg #[.string (s.extract a (a+n)),.int .i64 a,.string (bs Cl.num.bytes)]) (by simp[results,results132,go_sem,bs,Cl.bytes]) rfl ⟨rfl,fp.alloc bS _⟩
theorem Fp(s:ByteArray)(a:Nat)(w:World)(o:s.size<=9000)(j:a<s.size)(h1:run 97 122 (s.data.toList.drop a)=0)(h2:run 48 57 (s.data.toList.drop a)=0)(h3:s[a]=35):Calls prog 132 #[.string s,.int .i64 a] w λe f=>e=.returned (pR s a (bX (s.data.toList.drop a)).1 (bX (s.data.toList.drop a)).2)/\bg w f:=by
 have g:=pQ 48 57 (s.data.toList.drop (a+1));have i:bX (s.data.toList.drop a)=(run 48 57 (s.data.toList.drop (a+1))+1,if fk ((s.data.toList.drop (a+1)).take (run 48 57 (s.data.toList.drop (a+1)))) 3 then Cl.uj else Cl.bad):=by
  unfold bX;rw[ag (by omega),ag (by omega),drop_cons s a j];simp only[h3];rfl
 have d:=rF s a 97 122;have b:=rF s a 48 57;have c:=rF s (a+1) 48 57;rw[i];rw[h1]at d;rw[h2]at b;have k:((s[a].toNat:Int)==35)=true:=by rw[h3];rfl
 simp only[dN]at g;rw[fI]at g;generalize run 48 57 (s.data.toList.drop (a+1))=n at*;have h:=Aj (s.extract (a+1) (a+1+n)) 3;rw[wL]at h;generalize fk ((s.data.toList.drop (a+1)).take n) 3=q at*;have l:((a+1:Nat):Int)=(a:Int)+1:=by omega
 rw[l]at c;have m:a+(n+1)=a+1+n:=by omega
 unfold pR;rw[m];cases q
 all_goals
  go_in;go_wp2_with (first
   |(go_at_call_of 166 (Value.int IntKind.u8 97);refine (d _ (by unfold maxLen;omega) (by omega)).mono ?_;rintro e f ⟨rfl,rfl⟩)
   |(go_at_call_of 166 (Value.int IntKind.i64 (a:Int));refine (b _ (by unfold maxLen;omega) (by omega)).mono ?_;rintro e f ⟨rfl,rfl⟩)
   |(go_at_call_of 166 (Value.int IntKind.u8 48);refine (c _ (by unfold maxLen;omega) (by omega)).mono ?_;rintro e f ⟨rfl,rfl⟩)
   |(go_at_call 167;refine (h _ (by unfold maxLen;simp;omega) (by omega)).mono ?_;rintro e f ⟨rfl,rfl⟩))
 ·exact au (v:=.agg #[.string (s.extract a (a+1+n)),.int .i64 a,.string (bs Cl.bad.bytes)]) (by simp[results,results132,go_sem,bs,Cl.bytes]) rfl ⟨rfl,fp.alloc bS _⟩
 ·exact au (v:=.agg #[.string (s.extract a (a+1+n)),.int .i64 a,.string (bs Cl.uj.bytes)]) (by simp[results,results132,go_sem,bs,Cl.bytes]) rfl ⟨rfl,fp.alloc bS _⟩
theorem UN(s:ByteArray)(a:Nat)(b:a<s.size):(s.extract a (a+1)).toList=[s[a]]:=by
 rw[bR,wL,drop_cons s a b];rfl
theorem Kq(s:ByteArray)(a:Nat)(w:World)(hs:s.size<=9000)(ha:a<s.size)(h1:run 97 122 (s.data.toList.drop a)=0)(h2:run 48 57 (s.data.toList.drop a)=0)(h3:¬s[a]=35):Calls prog 132 #[.string s,.int .i64 a] w λe w'=>e=.returned (pR s a (bX (s.data.toList.drop a)).1 (bX (s.data.toList.drop a)).2)/\bg w w':=by
 have hto:bX (s.data.toList.drop a)=(1,if s[a]=40 then Cl.opn else if s[a]=41 then Cl.cls else Cl.bad):=by
  unfold bX;rw[ag (by omega),ag (by omega),drop_cons s a ha];simp only[ag h3]
 have hrow:=rF s a 97 122;have afm:=rF s a 48 57;rw[hto];rw[h1]at hrow;rw[h2]at afm;have h3':((s[a].toNat:Int)==35)=false:=by have:((s[a].toNat:Int)==35)=(s[a]==35):=jD s[a] 35;rw[this];simpa using h3
 have hx:=UN s a ha;have hx':(s.extract a (a+1)).data.toList=[s[a]]:=by rw[<-bR,hx]
 unfold pR;by_cases c1:s[a]=40
 ·have t1:((s.extract a (a+1)).toList==[40])=true:=by rw[hx,c1];rfl
  go_in;go_wp2_with (first
   |(go_at_call_of 166 (Value.int IntKind.u8 97);refine (hrow _ (by unfold maxLen;omega) (by omega)).mono ?_;rintro e w' ⟨rfl,rfl⟩)
   |(go_at_call_of 166 (Value.int IntKind.u8 48);refine (afm _ (by unfold maxLen;omega) (by omega)).mono ?_;rintro e w' ⟨rfl,rfl⟩))
  refine au (v:=.agg #[.string (s.extract a (a+1)),.int .i64 a,.string (s.extract a (a+1))]) (by simp[results,results132,go_sem]) rfl ⟨?_,fp.alloc bS _⟩
  try rw[ah c1]
  have:s.extract a (a+1)=bs Cl.opn.bytes:=Bx (by rw[hx',c1];rfl);rw[this]
 ·by_cases c2:s[a]=41
  ·have t1:((s.extract a (a+1)).toList==[40])=false:=by rw[hx,c2];rfl
   have t2:((s.extract a (a+1)).toList==[41])=true:=by rw[hx,c2];rfl
   go_in;go_wp2_with (first
    |(go_at_call_of 166 (Value.int IntKind.u8 97);refine (hrow _ (by unfold maxLen;omega) (by omega)).mono ?_;rintro e w' ⟨rfl,rfl⟩)
    |(go_at_call_of 166 (Value.int IntKind.u8 48);refine (afm _ (by unfold maxLen;omega) (by omega)).mono ?_;rintro e w' ⟨rfl,rfl⟩))
   refine au (v:=.agg #[.string (s.extract a (a+1)),.int .i64 a,.string (s.extract a (a+1))]) (by simp[results,results132,go_sem]) rfl ⟨?_,fp.alloc bS _⟩
   try rw[ag c1,ah c2]
   have:s.extract a (a+1)=bs Cl.cls.bytes:=Bx (by rw[hx',c2];rfl);rw[this]
  ·have t1:((s.extract a (a+1)).toList==[40])=false:=by rw[hx];simpa using c1
   have t2:((s.extract a (a+1)).toList==[41])=false:=by rw[hx];simpa using c2
   clear hx;go_in;go_wp2_with (first
    |(go_at_call_of 166 (Value.int IntKind.u8 97);refine (hrow _ (by unfold maxLen;omega) (by omega)).mono ?_;rintro e w' ⟨rfl,rfl⟩)
    |(go_at_call_of 166 (Value.int IntKind.u8 48);refine (afm _ (by unfold maxLen;omega) (by omega)).mono ?_;rintro e w' ⟨rfl,rfl⟩))
   refine au (v:=.agg #[.string (s.extract a (a+1)),.int .i64 a,.string (bs Cl.bad.bytes)]) (by simp[results,results132,go_sem,bs,Cl.bytes]) rfl ⟨?_,fp.alloc bS _⟩
   first|rfl|rw[ag c1,ag c2]
theorem Oh(s)(a:Nat)(w)(b:s.size<=9000)(c:a<s.size):Calls prog 132 #[.string s,.int .i64 a] w λe d=>e=.returned (pR s a (bX (s.data.toList.drop a)).1 (bX (s.data.toList.drop a)).2)/\bg w d:=by
 by_cases h1:0<run 97 122 (s.data.toList.drop a)
 ·exact Kp s a w b c h1
 ·by_cases h2:0<run 48 57 (s.data.toList.drop a)
  ·exact Fo s a w b c (by omega) h2
  ·by_cases h3:s[a]=35
   ·exact Fp s a w b c (by omega) (by omega) h3
   ·exact Kq s a w b c (by omega) (by omega) h3
def fg(t:Tk):List Value:=[.string (bs t.s),.int .i64 t.at_,.string (bs t.c.bytes)]
theorem Oi:(prog.info? 177).map (λi=>(i.zero,i.size,i.bytes))=some (some (.agg #[.string ⟨#[]⟩,.int .i64 0,.string ⟨#[]⟩]),3,40):=by kernel_rfl
theorem Oj:prog.underlying 174=some (.slice 177):=by kernel_rfl
theorem tT(s:ByteArray)(k:Nat)(a:k<s.size)(h:jJ s[k]=true):toks (s.size-k) k (s.data.toList.drop k)=toks (s.size-(k+1)) (k+1) (s.data.toList.drop (k+1)):=by
 rw[drop_cons s k a,show s.size-k=(s.size-(k+1))+1 from by omega,Ke _ _ _ _ h]
def oI(s:ByteArray)(k:Nat):Tk:=⟨(s.data.toList.drop k).take (bX (s.data.toList.drop k)).1,k,(bX (s.data.toList.drop k)).2⟩
theorem wE(s:ByteArray)(k:Nat)(a:k<s.size)(h:jJ s[k]=false):toks (s.size-k) k (s.data.toList.drop k)=oI s k::toks (s.size-(k+(bX (s.data.toList.drop k)).1)) (k+(bX (s.data.toList.drop k)).1) (s.data.toList.drop (k+(bX (s.data.toList.drop k)).1)):=by
 have b:=nC (s.data.toList.drop k);have e:toks (s.size-k) k (s.data.toList.drop k)=oI s k::toks (s.size-(k+1)) (k+(bX (s.data.toList.drop k)).1) ((s.data.toList.drop k).drop (bX (s.data.toList.drop k)).1):=by
  unfold oI;rw[drop_cons s k a]
  conv=>lhs;rw[show s.size-k=(s.size-(k+1))+1 from by omega]
  rw[QP _ _ _ _ h]
 rw[e,lg]
 congr 1
 apply Oc
 ·simp;omega
 ·simp
theorem Fq(s)(k:Nat):pR s k (bX (s.data.toList.drop k)).1 (bX (s.data.toList.drop k)).2=.agg #[.string (bs (oI s k).s),.int .i64 k,.string (bs (oI s k).c.bytes)]:=by
 unfold pR;rw[Bx (wL s k (bX (s.data.toList.drop k)).1)];rfl
theorem jh(h:bg z M)(a):z.grownBy M a:=⟨h.os,h.tape,h.output,h.size,λk b _=>h.block k b⟩
theorem bE{e}{n:Nat}(h:z.ownsRow v e u L n P)(a:bg z M):M.ownsRow v e u L n P:=by
 refine h.kept (jh a none) ?_;cases L.ownBlock<;>simp
theorem UO{e}{n:Nat}(h:z.ownsRow v e u L n P)(a:z.heap.size<=T):some T≠L.ownBlock:=by
 intro e;have:=h.lt T e.symm;omega
theorem eB(l):(bs l).size=l.length:=by show l.toArray.size=l.length;simp
theorem Bz(s)(k:Nat)(a:k<s.size):(oI s k).s.length=(bX (s.data.toList.drop k)).1:=by
 have:=sS (s.data.toList.drop k) (by rw[drop_cons s k a];simp);unfold oI;simp only[cS];omega
theorem BA(s)(w)(X:s.size<=9000):Calls prog 100 #[.string s] w λe T=>∃v,e=.returned v/\T.ownsRow w.heap.size 177 3 v (tokens s.data.toList).length ((tokens s.data.toList).flatMap fg)/\bg w T:=by
 obtain⟨Y,Z,H,I,J⟩:=cI Oi;go_in;go_wp2
 go_loopw [3,4] (λv i wr=>∃(k:Nat)(a:List Tk),k<=s.size/\i=.int .i64 k/\wr.ownsRow w.heap.size 177 3 v a.length (a.flatMap fg)/\bg w wr/\a.length<=k/\
   tokens s.data.toList=a++toks (s.size-k) k (s.data.toList.drop k)) (λ_ i _=>s.size-(intOf i).toNat)
 case atStart=>exact⟨0,[],by omega,rfl,wD,fp,by simp,by simp[tokens]⟩
 case round=>
  obtain⟨k,a,hk,rfl,A,c,hpk,g⟩:=hrel;have B:wr.ownsRow w.heap.size 177 3 _ a.length (a.flatMap fg):=A;have K:=c.size;by_cases l:k<s.size
  ·by_cases q:jJ s[k]=true
   ·have L:=tT s k l q;have M:((s[k].toNat:Int)==32)=true\/((s[k].toNat:Int)==32)=false/\((s[k].toNat:Int)==10)=true:=by
     have r:((s[k].toNat:Int)==32)=(s[k]==32):=jD s[k] 32;have N:((s[k].toNat:Int)==10)=(s[k]==10):=jD s[k] 10;rw[r,N];unfold jJ at q;cases h:s[k]==32<;>simp_all
    rcases M with q|⟨d,O⟩
    all_goals
     go_wp2;go_roundw
     case rel=>exact⟨k+1,a,by omega,by go_num,B,c,by omega,by rw[g,L]⟩
     case measure=>simp[intOf];omega
   ·have p:jJ s[k]=false:=by simpa using q
    have L:=wE s k l p;have d:((s[k].toNat:Int)==32)=false:=by
     have r:((s[k].toNat:Int)==32)=(s[k]==32):=jD s[k] 32;rw[r];unfold jJ at p;simp_all
    have O:((s[k].toNat:Int)==10)=false:=by
     have r:((s[k].toNat:Int)==10)=(s[k]==10):=jD s[k] 10;rw[r];unfold jJ at p;simp_all
    have x:=Oh s k;rw[Fq]at x;have m:=Bz s k l;have C:=nC (s.data.toList.drop k);have D:=sS (s.data.toList.drop k) (by rw[drop_cons s k l];simp);rw[dN,fI]at D;obtain⟨t,G⟩:=ez (oI s k);rw[<-G]at x m;have HT:Hid _:=G;have E:t.at_=k:=by rw[G];rfl
    obtain⟨n,U⟩:=ez ((bX (s.data.toList.drop k)).1);rw[<-U]at m C D;have P:(bs t.s).size=n:=by rw[eB,m]
    clear q p G;go_wp2_with (first
     |(go_at_call 132;refine (x _ X l).mono ?_;rintro e V ⟨rfl,d⟩)
     |(at_builtin;go_must (refine dG _ rfl (.tmp 25) (.tmp 27) 174 rfl w.heap.size 177 Y _ 3 40 Oj Z H I J rfl (by decide) _ a.length (a.flatMap fg) rfl ?own ⟨V.heap.size+1,0,none⟩ 1 1 (fg t) rfl rfl ?c1 ?c2 ?c3 ?c4 ?c5 ?_)))
    case own=>exact ((bE B d).alloc _).alloc _
    case c1=>
     intro j u f
     match j,f with
     |0,f=>simp[fg]at f;subst f;simp[Addr.add]
     |1,f=>simp[fg,E]at f;subst f;simp[Addr.add]
     |2,f=>simp[fg]at f;subst f;simp[Addr.add]
     |j+3,f=>simp[fg]at f
    case c2=>intro u W;simp[fg]at W;rcases W with rfl|rfl|rfl<;>rfl
    case c3=>unfold maxLen;omega
    case c4=>omega
    case c5=>have:=d.size;simp;omega
    ·intro v' Q y o _;have F:=d.size;have z:bg w Q:=by
      refine (((c.trans (d.mono K)).alloc (by omega) _).alloc (by simp;omega) _).grown o (by simp;omega) ?_;intro b q;exact (cA B b q).1
     have R:cg Q V.heap.size 0 (.string (bs t.s)):=
      o.cell (by simp) (UO B F)
     have S:Q.ownsRow w.heap.size 177 3 v' (a.length+1) (a.flatMap fg++fg t):=y;go_wp2;go_roundw
     case rel=>
      refine⟨k+n,a++[t],by omega,by first|go_num|(rw[P];go_num),?_,z,by simp;omega,?_⟩
      ·have r:(a++[t]).length=a.length+1:=by simp
       have N:(a++[t]).flatMap fg=a.flatMap fg++fg t:=by simp
       rw[r,N];exact S
      ·rw[g,L];rw[U,HT.out];simp
     case measure=>simp[intOf];omega
  ·go_wp2;go_ret
   exact ⟨_, rfl, by rw[g,nQ s k (by omega)];have:toks (s.size-k) k []=[]:=by cases s.size-k<;>rfl
                     rw[this,aN];exact B,c⟩
def lI(x:Wt):Value:=.string (bs x.bytes)
theorem oJ:prog.underlying 68=some (.slice 9):=by kernel_rfl
theorem vw:(prog.info? 9).map (λi=>(i.zero,i.size,i.bytes))=some (some (.string ⟨#[]⟩),1,16):=by kernel_rfl
theorem bo(l m):((bs l).toList==m)=(l==m):=by rw[bR];rfl
theorem kwq(k:Kw):((bs k.bytes).toList==[110,101,119])=decide (k=.new)/\((bs k.bytes).toList==[112,97,105,114])=decide (k=.pair)/\((bs k.bytes).toList==[102,115,116])=decide (k=.fst)/\((bs k.bytes).toList==[115,110,100])=decide (k=.snd)/\((bs k.bytes).toList==[105,102])=decide (k=.lv)/\((bs k.bytes).toList==[108,111,111,112])=decide (k=.loop)/\((bs k.bytes).toList==[97,100,100])=decide (k=.add)/\((bs k.bytes).toList==[115,117,98])=decide (k=.sub)/\((bs k.bytes).toList==[108,101,115,115])=decide (k=.less)/\((bs k.bytes).toList==[108,101,116])=decide (k=.dV):=by
 simp only[bo];cases k<;>decide
theorem Eh(c:Cl)(a)(w):Calls prog 101 #[.string (bs c.bytes),.bool a] w λe f=>(jK c a=[]/\e=.returned (.slice none 0 0)/\f=w)\/(jK c a≠[]/\e=.returned (.slice (some ⟨w.heap.size,0,none⟩) (jK c a).length (jK c a).length)/\f=w.alloc (.cells (((jK c a).map lI).reverse).toArray 9)):=by
 have b:=yY ⟨#[112,97,105,114,32,97,100,100,32,115,117,98,32,108,101,115,115]⟩ (bs c.bytes);have d:=yY ⟨#[102,115,116,32,115,110,100]⟩ (bs c.bytes);have g:=bo;rcases c with _|_|_|_|_|_|k
 case kw=>
  cases k<;>cases a
  all_goals
   simp only[Cl.bytes,Kw.bytes]at b d⊢;go_in;go_wp2_with (first
    |(go_at_call_of 133 (Value.string {data:=#[112,97,105,114,32,97,100,100,32,115,117,98,32,108,101,115,115]});refine (b _ (by decide)).mono ?_;rintro e f ⟨rfl,rfl⟩)
    |(go_at_call_of 133 (Value.string {data:=#[102,115,116,32,115,110,100]});refine (d _ (by decide)).mono ?_;rintro e f ⟨rfl,rfl⟩))
   go_ret
   first|exact aE ⟨by decide,rfl,rfl⟩|exact aD ⟨rfl,rfl,rfl⟩
 all_goals
  cases a
  all_goals
   simp only[Cl.bytes]at b d⊢;go_in;go_wp2_with (first
    |(go_at_call_of 133 (Value.string {data:=#[112,97,105,114,32,97,100,100,32,115,117,98,32,108,101,115,115]});refine (b _ (by decide)).mono ?_;rintro e f ⟨rfl,rfl⟩)
    |(go_at_call_of 133 (Value.string {data:=#[102,115,116,32,115,110,100]});refine (d _ (by decide)).mono ?_;rintro e f ⟨rfl,rfl⟩))
   go_ret;exact aD ⟨rfl,rfl,rfl⟩
def lT(o:Option Nat):Int:=match o with
 |some p=>p
 |none=>-1
theorem yZ(c d:Cl):((bs c.bytes).toList==d.bytes)=decide (c=d):=by
 rw[bo];rcases c with _|_|_|_|_|_|k<;>rcases d with _|_|_|_|_|_|a<;>first|decide|(cases k<;>decide)|(cases a<;>decide)|(cases k<;>cases a<;>decide)
theorem A4(b:List Tk)(k:Nat)(t)(h:b[k]?=some t)(j:Nat)(d:j<3):(b.flatMap fg)[k*3+j]?=(fg t)[j]?:=by
 induction b generalizing k with
 |nil=>simp at h
 |cons a r c=>
  cases k with
  |zero=>
   simp at h;subst h;rw[dS,ak (by simp[fg];omega)];simp
  |succ k=>
   rw[dS,aw (by simp[fg];omega)];have:(k+1)*3+j-(fg a).length=k*3+j:=by simp[fg];omega
   rw[this];exact c k h
theorem dQ(w:World)(l:List Value)(e)(j:Nat):(w.alloc (.cells l.toArray e)).cell? (Addr.add ⟨w.heap.size,0,none⟩ j)=l[j]?:=by
 rcases j with _|j<;>simp[Addr.add]
theorem QX(c:Cl)(a)(w)(h:jK c a=[]):Calls prog 101 #[.string (bs c.bytes),.bool a] w λe b=>e=.returned (.slice none 0 0)/\b=w:=by
 refine (Eh c a w).mono ?_;rintro e b (⟨_,h1,h2⟩|⟨d,_⟩)
 ·exact⟨h1,h2⟩
 ·exact absurd h d
theorem Ok(c:Cl)(a)(w)(h:jK c a≠[]):Calls prog 101 #[.string (bs c.bytes),.bool a] w λe b=>e=.returned (.slice (some ⟨w.heap.size,0,none⟩) (jK c a).length (jK c a).length)/\b=w.alloc (.cells (((jK c a).map lI).reverse).toArray 9):=by
 refine (Eh c a w).mono ?_;rintro e b (⟨d,_⟩|⟨_,h1,h2⟩)
 ·exact absurd d h
 ·exact⟨h1,h2⟩
theorem pj(s)(a)(w)(hs:s.size<=9000):Calls prog 60 #[.string s,.bool a] w λe w'=>e=.returned (.int .i64 (lT (jt a s.data.toList)))/\bg w w':=by
 obtain⟨i0,hi,hz0,hz1,hz2⟩:=cI vw;refine fT hi hz0 hz1 hz2 λHI y8 za ze=>?_;clear hi hz0 hz1 hz2;have U:=BA s;unfold jt;rw[fI];obtain⟨y,V⟩:=ez (tokens s.data.toList);have htl:y.length<=s.size:=by rw[V];have:=xT s.data.toList.length 0 s.data.toList;rw[fI]at this;unfold tokens;rw[fI];exact this
 rw[<-V]at U⊢;clear V;go_in;go_wp2_with (first
  |(go_at_call 100;refine (U _ hs).mono ?_;rintro e A ⟨tv,rfl,H,W⟩))
 have M:Hid (A.ownsRow w.heap.size 177 3 tv y.length (y.flatMap fg)):=H;have B:Hid _:=W;have C:=W.size;clear H W U;obtain⟨ta,tn,tc,X,htn⟩:∃ta tn tc,tv=.slice ta tn tc/\tn=y.length:=by
  rcases M.2 with⟨h,h'⟩|⟨g,n,N,h,_⟩
  ·exact⟨_,_,_,h,h'.symm⟩
  ·exact⟨_,_,_,h,rfl⟩
 subst htn;rw[X];have Y:Hid _:=X;clear X
 go_loopw [6,7] (λv i wr=>∃(k:Nat)(f:List Wt)(g n:Nat),k<=y.length/\i=.int .i64 k/\v=.slice (some ⟨g,0,none⟩) f.length n/\
   wr.ownsRow A.heap.size 9 1 (.slice (some ⟨g,0,none⟩) f.length n) f.length ((f.map lI).reverse)/\bg A wr/\f.length<=5*k+1/\
   cN a s.size y [.e]=cN a s.size (y.drop k) f) (λ_ i _=>y.length-(intOf i).toNat)
 case atStart=>
  refine⟨0,[.e],A.heap.size,1,by omega,rfl,rfl,?_,?_,by simp,by simp⟩
  ·refine⟨rfl,aE ⟨A.heap.size,1,#[lI .e],rfl,bS,?_,by simp,by decide,rfl,rfl⟩⟩;show (A.heap.push _)[A.heap.size]?=_;simp[lI,Wt.bytes,bs]
  ·exact fp.alloc bS _
 case round=>
  obtain⟨k,f,g,n,hk,rfl,rfl,Q,I,hpl,R⟩:=hrel;have F:Hid _:=R;have HO:Hid (wr.ownsRow A.heap.size 9 1 (.slice (some ⟨g,0,none⟩) f.length n) f.length ((f.map lI).reverse)):=Q;have D:Hid _:=I;have hsz:=I.size;clear R Q I;by_cases Z:k<y.length
  ·obtain⟨t,ht⟩:∃t,y[k]?=some t:=⟨y[k],aa Z⟩;obtain⟨gt,hgt⟩:∃gt,ta=some ⟨gt,0,none⟩:=by
    have h:=M.2;rw[Y.out]at h;rcases h with⟨h,h'⟩|⟨g,n,N,h,_⟩
    ·omega
    ·simp only[bN]at h;exact⟨_,h.1⟩
   have hcw:∀j,j<3->A.cell? ⟨gt,k*3+j,none⟩=(fg t)[j]?:=by
    intro j G;have h:A.ownsRow w.heap.size 177 3 (.slice (some ⟨gt,0,none⟩) y.length tc) y.length (y.flatMap fg):=by rw[<-hgt,<-Y.out];exact M
    rw[h.cellAt (k*3+j) (by omega)];exact A4 y k t ht j G
   have aac:gt<A.heap.size:=(M.lt gt (by rw[Y.out,hgt];rfl)).2;subst hgt;have GR:∀j,j<3->wr.cell? ⟨gt,k*3+j,none⟩=(fg t)[j]?:=λj G=>(D.cell (p:=⟨gt,k*3+j,none⟩) aac).trans (hcw j G);have hc1:cg wr gt (k*3+1) (.int .i64 t.at_):=GR 1 (by omega);have hc2:cg wr gt (k*3+2) (.string (bs t.c.bytes)):=GR 2 (by omega);have hd:y.drop k=t::y.drop (k+1):=by rw[aW Z];rw[aa Z]at ht;simp only[ai]at ht;rw[ht]
   have E:Hid _:=hd;clear GR hcw ht hd;cases f with
   |nil=>
    simp only[bn]at*;go_wp2;go_ret;exact⟨gj (by rw[F.out,E.out];simp[cN,lT]),(B.trans (D.mono C))⟩
   |cons x p=>
    have J:wr.cell? ⟨g,p.length,none⟩=some (lI x):=by
     rw[HO.out.cellAt p.length (by simp)];simp
    have z:Hid (wr.ownsRow A.heap.size 9 1 (.slice (some ⟨g,0,none⟩) p.length n) p.length ((p.map lI).reverse)):=by
     refine mJ (last:=[lI x]) (by simp) ?_;have:=HO.out;simpa using this
    have aee:p.length+1<=n:=by
     rcases HO.2 with⟨h,h'⟩|⟨g',S,N,h,_,_,h3,_⟩
     ·simp at h'
     ·simp only[bN]at h;simp at h3;omega
    simp only[aF]at*;cases x with
    |close=>
     simp only[lI,Wt.bytes]at J;have q1:((bs [41]).toList==[101])=false:=by rw[bo];decide
     have q2:((bs [41]).toList==[119,111,114,100])=false:=by rw[bo];decide
     have T:((bs t.c.bytes).toList==(bs [41]).toList)=decide (t.c=Cl.cls):=by
      have:=yZ t.c Cl.cls;rw[bR (bs [41])];exact this
     by_cases r:t.c=Cl.cls
     ·rw[dZ r]at T;have o:Hid _:=r;clear r;go_wp2;go_roundw
      case rel=>exact⟨k+1,p,g,n,by omega,by go_num,rfl,z.out,D.out,by omega,by rw[F.out,E.out];simp only[cN];rw[ah o.out]⟩
      case measure=>simp[intOf];omega
     ·rw[cd r]at T;have o:Hid _:=r;clear r;go_wp2;go_ret;exact⟨gj (by rw[F.out,E.out];simp only[cN];rw[ag o.out];rfl),(B.trans (D.mono C))⟩
    |name=>
     simp only[lI,Wt.bytes]at J;have q1:((bs [78,65,77,69]).toList==[101])=false:=by rw[bo];decide
     have q2:((bs [78,65,77,69]).toList==[119,111,114,100])=false:=by rw[bo];decide
     have T:((bs t.c.bytes).toList==(bs [78,65,77,69]).toList)=decide (t.c=Cl.wB):=by
      have:=yZ t.c Cl.wB;rw[bR (bs [78,65,77,69])];exact this
     by_cases r:t.c=Cl.wB
     ·rw[dZ r]at T;have o:Hid _:=r;clear r;go_wp2;go_roundw
      case rel=>exact⟨k+1,p,g,n,by omega,by go_num,rfl,z.out,D.out,by omega,by rw[F.out,E.out];simp only[cN];rw[ah o.out]⟩
      case measure=>simp[intOf];omega
     ·rw[cd r]at T;have o:Hid _:=r;clear r;go_wp2;go_ret;exact⟨gj (by rw[F.out,E.out];simp only[cN];rw[ag o.out];rfl),(B.trans (D.mono C))⟩
    |region=>
     simp only[lI,Wt.bytes]at J;have q1:((bs [82,69,71,73,79,78]).toList==[101])=false:=by rw[bo];decide
     have q2:((bs [82,69,71,73,79,78]).toList==[119,111,114,100])=false:=by rw[bo];decide
     have T:((bs t.c.bytes).toList==(bs [82,69,71,73,79,78]).toList)=decide (t.c=Cl.uj):=by
      have:=yZ t.c Cl.uj;rw[bR (bs [82,69,71,73,79,78])];exact this
     by_cases r:t.c=Cl.uj
     ·rw[dZ r]at T;have o:Hid _:=r;clear r;go_wp2;go_roundw
      case rel=>exact⟨k+1,p,g,n,by omega,by go_num,rfl,z.out,D.out,by omega,by rw[F.out,E.out];simp only[cN];rw[ah o.out]⟩
      case measure=>simp[intOf];omega
     ·rw[cd r]at T;have o:Hid _:=r;clear r;go_wp2;go_ret;exact⟨gj (by rw[F.out,E.out];simp only[cN];rw[ag o.out];rfl),(B.trans (D.mono C))⟩
    |e=>
     simp only[lI,Wt.bytes]at J;have q1:((bs [101]).toList==[101])=true:=by rw[bo];decide
     have o1:((bs t.c.bytes).toList==[40])=decide (t.c=.opn):=yZ t.c .opn;have o2:((bs t.c.bytes).toList==[78,85,77,66,69,82])=decide (t.c=.num):=yZ t.c .num;have o3:((bs t.c.bytes).toList==[78,65,77,69])=decide (t.c=.wB):=yZ t.c .wB;by_cases h1:t.c=.opn
     ·rw[dZ h1]at o1;have o:Hid _:=h1;clear h1 o2 o3;go_wp2_with (at_builtin;refine dG _ rfl (.tmp 57) (.tmp 58) 68 rfl A.heap.size 9 i0 _ 1 16 oJ HI y8 za ze rfl (by decide) _ p.length ((p.map lI).reverse) rfl (z.alloc _) ⟨wr.heap.size,0,none⟩ 1 1 [lI .word] rfl rfl ?d1 ?d2 ?d3 ?d4 ?d5 ?_)
      case d1=>
       intro j u G
       match j,G with
       |0,G=>simp at G;subst G;simp[Addr.add,lI,Wt.bytes,bs]
       |j+1,G=>simp at G
      case d2=>intro u hu;simp at hu;subst hu;rfl
      case d3=>unfold maxLen;omega
      case d4=>omega
      case d5=>simp;omega
      intro v' w2 d q K;have xN:Hid (bg A w2):=(D.alloc hsz _).grown q (by simp;omega) (λb hb=>(cA z b hb).1);obtain⟨O,m,L⟩:∃O m,v'=.slice (some ⟨O,0,none⟩) (p.length+1) m:=by
       rcases d.2 with⟨h,h'⟩|⟨g',S,N,h,_⟩
       ·omega
       ·exact⟨_,_,h⟩
      rw[L]at d⊢;have AZ:Hid (w2.ownsRow A.heap.size 9 1 (.slice (some ⟨O,0,none⟩) (p.length+1) m) (p.length+1) ((p.map lI).reverse++[lI .word])):=d;clear d q K L;go_wp2;go_roundw
      case rel=>exact⟨k+1,.word::p,O,m,by omega,by go_num,rfl,by have:=AZ.out;simpa using this,xN.out,by simp;omega,by rw[F.out,E.out];simp only[cN];rw[o.out]⟩
      case measure=>simp[intOf];omega
     ·rw[cd h1]at o1;by_cases h2:t.c=.num
      ·rw[dZ h2]at o2;have o:Hid _:=h2;clear h1 h2 o3;go_wp2;go_roundw
       case rel=>exact⟨k+1,p,g,n,by omega,by go_num,rfl,z.out,D.out,by omega,by rw[F.out,E.out];simp only[cN];rw[o.out]⟩
       case measure=>simp[intOf];omega
      ·rw[cd h2]at o2;by_cases h3:t.c=.wB
       ·rw[dZ h3]at o3;have o:Hid _:=h3;clear h1 h2 h3;go_wp2;go_roundw
        case rel=>exact⟨k+1,p,g,n,by omega,by go_num,rfl,z.out,D.out,by omega,by rw[F.out,E.out];simp only[cN];rw[o.out]⟩
        case measure=>simp[intOf];omega
       ·rw[cd h3]at o3;have o:Hid (t.c≠.opn/\t.c≠.num/\t.c≠.wB):=⟨h1,h2,h3⟩;clear h1 h2 h3;go_wp2;go_ret;refine⟨gj ?_,(B.trans (D.out.mono C))⟩;rw[F.out,E.out];have:=o.out;simp only[cN];split<;>simp_all [lT]
    |word=>
     simp only[lI,Wt.bytes]at J;have q1:((bs [119,111,114,100]).toList==[101])=false:=by rw[bo];decide
     have q2:((bs [119,111,114,100]).toList==[119,111,114,100])=true:=by rw[bo];decide
     by_cases h1:jK t.c a=[]
     ·have P:=λw=>QX t.c a w h1;have o:Hid _:=h1;clear h1;go_wp2_with (go_at_call 101;refine (P _).mono ?_;rintro e w' ⟨rfl,rfl⟩);go_ret;exact⟨gj (by rw[F.out,E.out];simp only[cN];rw[ah o.out];rfl),(B.out.trans (D.out.mono C))⟩
     ·have P:=λw=>Ok t.c a w h1;have hl:=Kf t.c a;have o:Hid _:=h1;obtain⟨l,hm⟩:=ez (jK t.c a);have hmp:0<l.length:=by rw[hm];exact kG.2 h1
      rw[<-hm]at P hl;have HM:Hid _:=hm;have hb0:((l.length:Int)==0)=false:=by rw[aH];omega
      clear h1 hm;go_wp2_with (first
       |(go_at_call 101;refine (P _).mono ?_;rintro e w' ⟨rfl,rfl⟩)
       |(at_builtin;refine dG _ rfl (.tmp 84) (.tmp 85) 68 rfl A.heap.size 9 i0 _ 1 16 oJ HI.out y8.out za.out ze.out rfl (by decide) _ p.length ((p.map lI).reverse) rfl (z.out.alloc _) ⟨wr.heap.size,0,none⟩ l.length l.length ((l.map lI).reverse) rfl (by simp) ?d1 ?d2 ?d3 ?d4 ?d5 ?_))
      case d1=>
       intro j u G;rw[<-G];exact dQ _ _ _ _
      case d2=>intro u hu;simp at hu;obtain⟨x,_,rfl⟩:=hu;rfl
      case d3=>unfold maxLen;omega
      case d4=>omega
      case d5=>simp;omega
      intro v' w2 d q K;have xN:Hid (bg A w2):=(D.out.alloc hsz _).grown q (by simp;omega) (λb hb=>(cA z.out b hb).1);obtain⟨O,m,L⟩:∃O m,v'=.slice (some ⟨O,0,none⟩) (p.length+l.length) m:=by
       rcases d.2 with⟨h,h'⟩|⟨g',S,N,h,_⟩
       ·omega
       ·exact⟨_,_,h⟩
      rw[L]at d⊢;have AZ:Hid (w2.ownsRow A.heap.size 9 1 (.slice (some ⟨O,0,none⟩) (p.length+l.length) m) (p.length+l.length) ((p.map lI).reverse++(l.map lI).reverse)):=d;clear d q K L;go_wp2;go_roundw
      case rel=>
       refine⟨k+1,l++p,O,m,by omega,by go_num,by simp;omega,?_,xN.out,by simp;omega,by rw[F.out,E.out];simp only[cN];rw[ag o.out,<-HM.out]⟩;have:=AZ.out;have e1:(l++p).length=p.length+l.length:=by simp;omega
       rw[e1];simpa using this
      case measure=>simp[intOf];omega
  ·have hkk:k=y.length:=by omega
   have hd:y.drop k=[]:=by rw[hkk];simp
   have E:Hid _:=hd;clear hd;cases f with
   |nil=>
    simp only[bn]at*;go_wp2;go_ret;exact⟨gj (by rw[F.out,E.out];simp[cN,lT]),(B.out.trans (D.out.mono C))⟩
   |cons x p=>
    simp only[aF]at*;go_wp2;go_ret;exact⟨gj (by rw[F.out,E.out];simp[cN,lT]),(B.out.trans (D.out.mono C))⟩
