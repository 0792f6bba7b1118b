import Derived.Test.YtpicaknklgccoaaGreatDoorProg
import Derived.WalkKit
import Derived.WalkSpells
import Derived.WalkLawsBesides
import Derived.Lib.Strings
import Derived.Lib.IndexBytes
import Derived.Deep.RegionWith
set_option maxHeartbeats 2000000
set_option maxRecDepth 100000
namespace Go.Proofs.YtpicaknklgccoaaGreatDoor
def j7 (lo hi : Int) (c : UInt8) : Bool := decide (lo <= (c.toNat : Int)) && decide ((c.toNat : Int) <= hi)
def run (lo hi : Int) : List UInt8 -> Nat
 | [] => 0
 | c :: r => if j7 lo hi c then run lo hi r + 1 else 0
theorem pQ (lo hi : Int) (l : List UInt8) : run lo hi l <= l.length := by
 induction l with
 | nil => simp [run]
 | cons c r ih => simp only [run]; split <;> simp <;> omega
def bY (l : List UInt8) (most : Nat) : Bool := decide (0 < l.length) && decide (l.length <= most) && (decide (l.length = 1) || (l.head? != some 48))
def au (l : List UInt8) : Int := l.foldl (fun n c => if c = 35 then n else 10 * n + (c.toNat : Int) - 48) 0
theorem tE (l : List UInt8) (c : UInt8) : au (l ++ [c]) = if c = 35 then au l else 10 * au l + (c.toNat : Int) - 48 := by
 unfold au; rw [List.foldl_append]; rfl
theorem Nt (l : List UInt8) : ∀ (j : Nat) (a : Int), -(30 * 10 ^ j - 30) <= a -> a <= 30 * 10 ^ j - 30 ->
  -(30 * 10 ^ (j + l.length) - 30) <= l.foldl (fun n c => if c = 35 then n else 10 * n + (c.toNat : Int) - 48) a /\ l.foldl (fun n c => if c = 35 then n else 10 * n + (c.toNat : Int) - 48) a <= 30 * 10 ^ (j + l.length) - 30 := by
 induction l with
 | nil => intro j a h1 h2; exact ⟨h1, h2⟩
 | cons c r ih =>
  intro j a h1 h2
  have hp : 0 < (10 : Int) ^ j := Int.pow_pos (by omega)
  have hc : c.toNat < 256 := c.toNat_lt
  have e : (10 : Int) ^ (j + 1) = 10 * 10 ^ j := by rw [Int.pow_succ]; omega
  have := ih (j + 1) (if c = 35 then a else 10 * a + (c.toNat : Int) - 48) (by rw [e]; split <;> omega) (by rw [e]; split <;> omega)
  rw [List.length_cons, show j + (r.length + 1) = j + 1 + r.length from by omega]
  exact this
theorem GX (l : List UInt8) : -(30 * 10 ^ l.length - 30) <= au l /\ au l <= 30 * 10 ^ l.length - 30 := by
 have := Nt l 0 0 (by decide) (by decide)
 simpa [au] using this
inductive Kw | bb | pair | fst | snd | fH | add | sub | less | loop | new
 deriving DecidableEq, Repr
def Kw.bytes : Kw -> List UInt8
 | .bb => [108, 101, 116]
 | .pair => [112, 97, 105, 114]
 | .fst => [102, 115, 116]
 | .snd => [115, 110, 100]
 | .fH => [105, 102]
 | .add => [97, 100, 100]
 | .sub => [115, 117, 98]
 | .less => [108, 101, 115, 115]
 | .loop => [108, 111, 111, 112]
 | .new => [110, 101, 119]
def uf (l : List UInt8) : Option Kw :=
 if l = Kw.bb.bytes then some .bb else if l = Kw.pair.bytes then some .pair else if l = Kw.fst.bytes then some .fst else
 if l = Kw.snd.bytes then some .snd else if l = Kw.fH.bytes then some .fH else if l = Kw.add.bytes then some .add else
 if l = Kw.sub.bytes then some .sub else if l = Kw.less.bytes then some .less else if l = Kw.loop.bytes then some .loop else
 if l = Kw.new.bytes then some .new else none
theorem sx {l : List UInt8} {k : Kw} (h : uf l = some k) : l = k.bytes := by
 unfold uf at h
 repeat' (split at h; · simp only [Option.some.injEq] at h; subst h; assumption)
 simp at h
theorem uY (k : Kw) : uf k.bytes = some k := by cases k <;> decide
inductive Cl | opn | cls | xP | num | Ft | bad | kw (k : Kw)
 deriving DecidableEq, Repr
def dX (l : List UInt8) (n : Nat) : Cl := match uf l with
 | some k => .kw k
 | none => if n <= 8 then .xP else .bad
def aJ (l : List UInt8) : Nat × Cl :=
 if 0 < run 97 122 l then
  (run 97 122 l, dX (l.take (run 97 122 l)) (run 97 122 l))
 else if 0 < run 48 57 l then
  (run 48 57 l, if bY (l.take (run 48 57 l)) 4 then .num else .bad)
 else match l with
  | [] => (1, .bad)
  | c :: r =>
   if c = 35 then (run 48 57 r + 1, if bY (r.take (run 48 57 r)) 3 then .Ft else .bad)
   else (1, if c = 40 then .opn else if c = 41 then .cls else .bad)
theorem lq (l : List UInt8) : 0 < (aJ l).1 := by
 unfold aJ
 split
 ·assumption
 ·split
  ·assumption
  ·split
   ·simp
   ·split <;> simp
theorem pR (l : List UInt8) (h : l ≠ []) : (aJ l).1 <= l.length := by
 unfold aJ
 split
 ·exact pQ _ _ _
 ·split
  ·exact pQ _ _ _
  ·split
   ·exact absurd rfl h
   ·rename_i c r _ _
    split
    ·have := pQ 48 57 r; simp; omega
    ·simp
structure Tk where
 s : List UInt8
 at_ : Nat
 c : Cl
 deriving Repr
def dY (c : UInt8) : Bool := c == 32 || c == 10
def toks : Nat -> Nat -> List UInt8 -> List Tk
 | 0, _, _ => []
 | _ + 1, _, [] => []
 | f + 1, p, c :: r =>
  if dY c then toks f (p + 1) r
  else ⟨(c :: r).take (aJ (c :: r)).1, p, (aJ (c :: r)).2⟩ :: toks f (p + (aJ (c :: r)).1) ((c :: r).drop (aJ (c :: r)).1)
theorem yt : ∀ (f g p : Nat) (l : List UInt8), l.length <= f -> l.length <= g -> toks f p l = toks g p l := by
 intro f
 induction f with
 | zero => intro g p l h1 h2; have : l = [] := List.length_eq_zero_iff.1 (by omega); subst this; cases g <;> rfl
 | succ f ih =>
  intro g p l h1 h2
  cases l with
  | nil => cases g <;> rfl
  | cons c r =>
   cases g with
   | zero => simp at h2
   | succ g =>
    simp only [List.length_cons] at h1 h2
    simp only [toks]
    have hp := lq (c :: r)
    split
    ·exact ih g _ r (by omega) (by omega)
    ·rw [ih g _ _ (by simp; omega) (by simp; omega)]
def tokens (l : List UInt8) : List Tk := toks l.length 0 l
theorem uZ (f p : Nat) (c : UInt8) (r : List UInt8) (h : dY c = true) : toks (f + 1) p (c :: r) = toks f (p + 1) r := by simp [toks, h]
theorem Bd (f p : Nat) (c : UInt8) (r : List UInt8) (h : dY c = false) : toks (f + 1) p (c :: r) = ⟨(c :: r).take (aJ (c :: r)).1, p, (aJ (c :: r)).2⟩ :: toks f (p + (aJ (c :: r)).1) ((c :: r).drop (aJ (c :: r)).1) := by simp [toks, h]
def GY (c : Nat -> Nat) (x y : Nat) : Nat -> Nat := fun i => if c i = max (c x) (c y) then min (c x) (c y) else c i
inductive JF (G : Nat -> Nat -> Prop) : Nat -> Nat -> Prop
 | base {x y : Nat} (h : G x y) : JF G x y
 | refl (x : Nat) : JF G x x
 | symm {x y : Nat} (h : JF G x y) : JF G y x
 | trans {x y z : Nat} (h : JF G x y) (g : JF G y z) : JF G x z
structure Yq (G : Nat -> Nat -> Prop) (c : Nat -> Nat) : Prop where
 le : ∀ i, c i <= i
 snd : ∀ i, JF G i (c i)
theorem Yq.GY {G : Nat -> Nat -> Prop} {c : Nat -> Nat} (h : Yq G c) {x y : Nat} (hxy : JF G x y) : Yq G (GY c x y) := by
 have hc : JF G (c x) (c y) := ((h.snd x).symm.trans hxy).trans (h.snd y)
 have hm : JF G (max (c x) (c y)) (min (c x) (c y)) := by
  by_cases e : c x <= c y
  ·rw [Nat.max_eq_right e, Nat.min_eq_left e]; exact hc.symm
  ·have e' : c y <= c x := by omega
   rw [Nat.max_eq_left e', Nat.min_eq_right e']; exact hc
 refine ⟨fun i => ?_, fun i => ?_⟩
 ·have := h.le i
  unfold Go.Proofs.YtpicaknklgccoaaGreatDoor.GY
  split <;> omega
 ·unfold Go.Proofs.YtpicaknklgccoaaGreatDoor.GY
  split
  ·rename_i e
   exact (h.snd i).trans (by rw [e]; exact hm)
  ·exact h.snd i
theorem JG (c : Nat -> Nat) (x y : Nat) : GY c x y x = GY c x y y := by
 unfold GY
 by_cases e : c x <= c y
 ·rw [Nat.max_eq_right e, Nat.min_eq_left e]
  by_cases e2 : c x = c y
  ·rw [if_pos e2, if_pos rfl]
  ·rw [if_neg e2, if_pos rfl]
 ·have e' : c y <= c x := by omega
  rw [Nat.max_eq_left e', Nat.min_eq_right e', if_pos rfl, if_neg (by omega)]
theorem GZ (c : Nat -> Nat) (x y : Nat) {i j : Nat} (h : c i = c j) : GY c x y i = GY c x y j := by unfold GY; rw [h]
def nB (E : List Nat) : Nat -> Nat -> Nat
 | 0, p => p
 | f + 1, p => match E[p]? with
  | some x => if x < p then nB E f x else p
  | none => p
def bg (E : List Nat) (p : Nat) : Nat := nB E (p + 1) p
theorem yu (E : List Nat) : ∀ f p, nB E f p <= p
 | 0, p => Nat.le_refl p
 | f + 1, p => by
  simp only [nB]
  split
  ·split
   ·have := yu E f; rename_i x _ h; have := this x; omega
   ·exact Nat.le_refl p
  ·exact Nat.le_refl p
theorem tF (E : List Nat) : ∀ f g p, p < f -> p < g -> nB E f p = nB E g p
 | 0, _, _, h, _ => by omega
 | _ + 1, 0, _, _, h => by omega
 | f + 1, g + 1, p, h1, h2 => by
  simp only [nB]
  split
  ·split
   ·rename_i x _ h; exact tF E f g x (by omega) (by omega)
   ·rfl
  ·rfl
theorem gi (E : List Nat) (p : Nat) : bg E p = match E[p]? with
  | some x => if x < p then bg E x else p
  | none => p := by
 unfold bg
 conv => lhs; unfold nB
 split
 ·split
  ·rename_i x _ h; exact tF E p (x + 1) x h (by omega)
  ·rfl
 ·rfl
theorem zI (E : List Nat) (p : Nat) : bg E p <= p := yu E _ p
theorem Fu (E : List Nat) : ∀ p, ∀ x, E[bg E p]? = some x -> bg E p <= x := by
 intro p
 induction p using Nat.strongRecOn with
 | _ p ih =>
  intro x hx
  rw [gi] at hx ⊢
  cases h : E[p]? with
  | none => rw [h] at hx; simp only at hx; rw [h] at hx; cases hx
  | some y =>
   rw [h] at hx
   simp only at hx ⊢
   by_cases hy : y < p
   ·rw [if_pos hy] at hx ⊢; exact ih y hy x hx
   ·rw [if_neg hy] at hx ⊢; rw [h] at hx; cases hx; omega
theorem Fv (E : List Nat) (a b : Nat) (hab : a < b) (hb : b < E.length) (ha : bg E a = a) (qO : bg E b = b) : ∀ p, bg (E.set b a) p = if bg E p = b then a else bg E p := by
 intro p
 induction p using Nat.strongRecOn with
 | _ p ih =>
  rw [gi (E.set b a) p]
  by_cases hp : p = b
  ·subst hp
   rw [List.getElem?_set_self hb]
   simp only
   rw [if_pos hab, ih a hab, ha, qO, if_neg (by omega), if_pos rfl]
  ·rw [List.getElem?_set_ne (fun e => hp e.symm), gi E p]
   cases h : E[p]? with
   | none => simp only; rw [if_neg hp]
   | some y =>
    simp only
    by_cases hy : y < p
    ·rw [if_pos hy, if_pos hy]; exact ih y hy
    ·rw [if_neg hy, if_neg hy, if_neg hp]
def iO (E : List Nat) (x y : Nat) : List Nat := if bg E x < bg E y then E.set (bg E y) (bg E x) else E.set (bg E x) (bg E y)
theorem nC (E : List Nat) (p : Nat) : bg E (bg E p) = bg E p := by
 rw [gi E (bg E p)]
 cases h : E[bg E p]? with
 | none => rfl
 | some x => simp only; rw [if_neg (by have := Fu E p x h; omega)]
theorem nD (E : List Nat) (x y : Nat) (hx : x < E.length) (hy : y < E.length) (p : Nat) : bg (iO E x y) p = GY (bg E) x y p := by
 have hxl := zI E x
 have nj := zI E y
 unfold iO GY
 by_cases h : bg E x < bg E y
 ·rw [if_pos h, Fv E _ _ h (by omega) (nC E x) (nC E y), Nat.max_eq_right (by omega), Nat.min_eq_left (by omega)]
 ·rw [if_neg h]
  by_cases e : bg E x = bg E y
  ·rw [<- e, Nat.max_self, Nat.min_self]
   have hs : ∀ q, bg (E.set (bg E x) (bg E x)) q = bg E q := by
    intro q
    induction q using Nat.strongRecOn with
    | _ q ih =>
     rw [gi (E.set _ _) q, gi E q]
     by_cases hq : q = bg E x
     ·rw [hq, List.getElem?_set_self (by omega)]
      simp only
      rw [if_neg (by omega)]
      cases h2 : E[bg E x]? with
      | none => rfl
      | some z => simp only; rw [if_neg (by have := Fu E x z h2; omega)]
     ·rw [List.getElem?_set_ne (fun e => hq e.symm)]
      cases h2 : E[q]? with
      | none => rfl
      | some z =>
       simp only
       by_cases hz : z < q
       ·rw [if_pos hz, if_pos hz]; exact ih z hz
       ·rw [if_neg hz, if_neg hz]
   rw [hs]
   split
   ·rename_i e2; exact e2
   ·rfl
  ·rw [Fv E _ _ (by omega) (by omega) (nC E y) (nC E x), Nat.max_eq_left (by omega), Nat.min_eq_right (by omega)]
open Go.RowKit
theorem drop_cons (s : ByteArray) (k : Nat) (h : k < s.size) : s.data.toList.drop k = s[k] :: s.data.toList.drop (k + 1) := by
 rw [List.drop_eq_getElem_cons (by simpa using h)]; rfl
theorem qY (s : ByteArray) (k : Nat) (h : s.size <= k) : s.data.toList.drop k = [] := by
 rw [List.drop_eq_nil_iff]; simpa using h
theorem jO {k : IntKind} {a b : Int} (h : a = b) : Ending.returned (.int k a) = .returned (.int k b) := by rw [h]
theorem ou (a b : UInt8) : ((a.toNat : Int) == (b.toNat : Int)) = (a == b) := by
 rw [Bool.eq_iff_iff]
 simp only [beq_iff_eq]
 constructor
 ·intro h; apply UInt8.toNat_inj.1; omega
 ·intro h; rw [h]
theorem nE {a b : Bool} (h : a = b) : Ending.returned (.bool a) = .returned (.bool b) := by rw [h]
theorem G5 (s : ByteArray) (k : Nat) (h : k < s.size) : s.data.toList.take (k + 1) = s.data.toList.take k ++ [s[k]] := by
 rw [List.take_succ_eq_append_getElem (by simpa using h)]; rfl
theorem Uu (k : Nat) (h : k <= 5) : (10 : Int) ^ k <= 100000 := by
 match k, h with
 | 0, _ => decide
 | 1, _ => decide
 | 2, _ => decide
 | 3, _ => decide
 | 4, _ => decide
 | 5, _ => decide
def bs (l : List UInt8) : ByteArray := ⟨l.toArray⟩
theorem G6 (l : List UInt8) : (bs l).data.toList = l := rfl
theorem PZ {s : ByteArray} {l : List UInt8} (h : s.data.toList = l) : s = bs l := by subst h; cases s; rfl
theorem QZ (s : ByteArray) (a n : Nat) : (s.extract a (a + n)).data.toList = (s.data.toList.drop a).take n := by
 rw [Lib.extract_data, show a + n - a = n from by omega]
theorem dE (s : ByteArray) : s.data.toList.length = s.size := by simp
theorem ug (s : ByteArray) (k : Nat) (hk : k < s.size) (h : dY s[k] = true) : toks (s.size - k) k (s.data.toList.drop k) = toks (s.size - (k + 1)) (k + 1) (s.data.toList.drop (k + 1)) := by
 rw [drop_cons s k hk, show s.size - k = (s.size - (k + 1)) + 1 from by omega, uZ _ _ _ _ h]
def jP (s : ByteArray) (k : Nat) : Tk := ⟨(s.data.toList.drop k).take (aJ (s.data.toList.drop k)).1, k, (aJ (s.data.toList.drop k)).2⟩
theorem xQ (s : ByteArray) (k : Nat) (hk : k < s.size) (h : dY s[k] = false) :
  toks (s.size - k) k (s.data.toList.drop k) = jP s k :: toks (s.size - (k + (aJ (s.data.toList.drop k)).1)) (k + (aJ (s.data.toList.drop k)).1) (s.data.toList.drop (k + (aJ (s.data.toList.drop k)).1)) := by
 have hp := lq (s.data.toList.drop k)
 have e : toks (s.size - k) k (s.data.toList.drop k) = jP s k :: toks (s.size - (k + 1)) (k + (aJ (s.data.toList.drop k)).1) ((s.data.toList.drop k).drop (aJ (s.data.toList.drop k)).1) := by
  unfold jP
  rw [drop_cons s k hk]
  conv => lhs; rw [show s.size - k = (s.size - (k + 1)) + 1 from by omega]
  rw [Bd _ _ _ _ h]
 rw [e, List.drop_drop]
 congr 1
 apply yt
 ·simp; omega
 ·simp
theorem u4 {w w' : World} (h : Below w.heap.size w w') (row : Option Nat) : w.grownBy w' row := ⟨h.os, h.tape, h.output, h.size, fun k hk _ => h.block k hk⟩
theorem aA {w w' : World} {base : Nat} {e : TypeId} {size : Nat} {v : Value} {n : Nat} {xs : List Value} (h : w.ownsRow base e size v n xs) (hb : Below w.heap.size w w') : w'.ownsRow base e size v n xs := by
 refine h.kept (u4 hb none) ?_
 cases v.ownBlock <;> simp
theorem dm (l : List UInt8) : (bs l).size = l.length := by show l.toArray.size = l.length; simp
theorem Be (s : ByteArray) (k : Nat) (hk : k < s.size) : (jP s k).s.length = (aJ (s.data.toList.drop k)).1 := by
 have := pR (s.data.toList.drop k) (by rw [drop_cons s k hk]; simp)
 unfold jP
 simp only [List.length_take]; omega
inductive Wt | e | word | close | name | region
 deriving DecidableEq, Repr
def bS (k : Kw) (ae : Bool) : List Wt :=
 match k, ae with
 | .bb, _ => [.name, .e, .e, .close]
 | .loop, _ => [.e, .name, .e, .e, .close]
 | .pair, true => [.region, .e, .e, .close]
 | .new, true => [.region, .e, .close]
 | .pair, false => [.e, .e, .close]
 | .add, _ => [.e, .e, .close]
 | .sub, _ => [.e, .e, .close]
 | .less, _ => [.e, .e, .close]
 | .fst, _ => [.e, .close]
 | .snd, _ => [.e, .close]
 | .fH, _ => [.e, .e, .e, .close]
 | .new, false => []
def sA (c : Cl) (ae : Bool) : List Wt := match c with
 | .kw k => bS k ae
 | _ => []
def bK (ae : Bool) (len : Nat) : List Tk -> List Wt -> Option Nat
 | [], [] => none
 | [], _ :: _ => some len
 | t :: _, [] => some t.at_
 | t :: ts, .e :: p => match t.c with
  | .opn => bK ae len ts (.word :: p)
  | .num => bK ae len ts p
  | .xP => bK ae len ts p
  | _ => some t.at_
 | t :: ts, .word :: p => if sA t.c ae = [] then some t.at_ else bK ae len ts (sA t.c ae ++ p)
 | t :: ts, .close :: p => if t.c = .cls then bK ae len ts p else some t.at_
 | t :: ts, .name :: p => if t.c = .xP then bK ae len ts p else some t.at_
 | t :: ts, .region :: p => if t.c = .Ft then bK ae len ts p else some t.at_
theorem Bf : ∀ (f p : Nat) (l : List UInt8), (toks f p l).length <= l.length := by
 intro f
 induction f with
 | zero => intro p l; simp [toks]
 | succ f ih =>
  intro p l
  cases l with
  | nil => simp [toks]
  | cons c r =>
   simp only [toks]
   split
   ·have := ih (p + 1) r; simp; omega
   ·have hp := lq (c :: r)
    have := ih (p + (aJ (c :: r)).1) ((c :: r).drop (aJ (c :: r)).1)
    simp only [List.length_drop, List.length_cons] at this
    simp only [List.length_cons]; omega
theorem JH (l m : List UInt8) : ((bs l).toList == m) = (l == m) := by rw [Lib.toList_data]; rfl
theorem bH (w : World) (l : List Value) (e : TypeId) (j : Nat) : (w.alloc (.cells l.toArray e)).cell? (Addr.add ⟨w.heap.size, 0, none⟩ j) = l[j]? := by
 rcases j with _ | j <;> simp [Addr.add]
inductive PT where
 | num (p : Nat) (s : List UInt8)
 | name (p : Nat) (s : List UInt8)
 | node (p : Nat) (k : Kw) (nm rg : List UInt8) (kids : List PT)
mutual
def PT.cnt : PT -> Nat
 | .num _ _ => 1
 | .name _ _ => 1
 | .node _ _ _ _ kids => 1 + aB kids
def aB : List PT -> Nat
 | [] => 0
 | t :: r => t.cnt + aB r
end
mutual
def PT.bJ : PT -> Nat
 | .num _ _ => 0
 | .name _ _ => 0
 | .node _ k _ _ kids => (if k = .pair then 1 else 0) + jQ kids
def jQ : List PT -> Nat
 | [] => 0
 | t :: r => t.bJ + jQ r
end
mutual
inductive PE (ae : Bool) : List Tk -> PT -> List Tk -> Prop
 | num {t : Tk} {r : List Tk} : t.c = .num -> PE ae (t :: r) (.num t.at_ t.s) r
 | name {t : Tk} {r : List Tk} : t.c = .xP -> PE ae (t :: r) (.name t.at_ t.s) r
 | node {t u : Tk} {k : Kw} {r r' : List Tk} {nm rg : List UInt8} {kids : List PT} : t.c = .opn -> u.c = .kw k -> bS k ae ≠ [] ->
   PW ae (bS k ae) r nm rg kids r' -> PE ae (t :: u :: r) (.node t.at_ k nm rg kids) r'
inductive PW (ae : Bool) : List Wt -> List Tk -> List UInt8 -> List UInt8 -> List PT -> List Tk -> Prop
 | nil {r : List Tk} : PW ae [] r [] [] [] r
 | close {t : Tk} {ws : List Wt} {r r' : List Tk} {nm rg : List UInt8} {kids : List PT} : t.c = .cls -> PW ae ws r nm rg kids r' -> PW ae (.close :: ws) (t :: r) nm rg kids r'
 | name {t : Tk} {ws : List Wt} {r r' : List Tk} {nm rg : List UInt8} {kids : List PT} : t.c = .xP -> PW ae ws r nm rg kids r' -> PW ae (.name :: ws) (t :: r) t.s rg kids r'
 | region {t : Tk} {ws : List Wt} {r r' : List Tk} {nm rg : List UInt8} {kids : List PT} : t.c = .Ft -> PW ae ws r nm rg kids r' -> PW ae (.region :: ws) (t :: r) nm t.s kids r'
 | e {e : PT} {ws : List Wt} {l r r' : List Tk} {nm rg : List UInt8} {kids : List PT} : PE ae l e r -> PW ae ws r nm rg kids r' -> PW ae (.e :: ws) l nm rg (e :: kids) r'
end
mutual
theorem PE.sound {ae : Bool} {len : Nat} : ∀ {l : List Tk} {e : PT} {r : List Tk}, PE ae l e r -> ∀ p, bK ae len l (.e :: p) = bK ae len r p
 | _, _, _, .num h, p => by simp [bK, h]
 | _, _, _, .name h, p => by simp [bK, h]
 | _, _, _, .node (k := k) h1 h2 h3 h4, p => by
  have := PW.sound (len := len) h4 p
  simp only [bK, h1, h2, sA]
  rw [if_neg h3]; exact this
theorem PW.sound {ae : Bool} {len : Nat} : ∀ {ws : List Wt} {l : List Tk} {nm rg : List UInt8} {kids : List PT} {r : List Tk}, PW ae ws l nm rg kids r -> ∀ p, bK ae len l (ws ++ p) = bK ae len r p
 | _, _, _, _, _, _, .nil, p => rfl
 | _, _, _, _, _, _, .close h h1, p => by have := PW.sound (len := len) h1 p; simp only [List.cons_append, bK, if_pos h]; exact this
 | _, _, _, _, _, _, .name h h1, p => by have := PW.sound (len := len) h1 p; simp only [List.cons_append, bK, if_pos h]; exact this
 | _, _, _, _, _, _, .region h h1, p => by have := PW.sound (len := len) h1 p; simp only [List.cons_append, bK, if_pos h]; exact this
 | _, _, _, _, _, _, .e (ws := ws) h h1, p => by have := PE.sound (len := len) h (ws ++ p); rw [List.cons_append, this]; exact PW.sound h1 p
end
mutual
theorem PE.len {ae : Bool} : ∀ {l : List Tk} {e : PT} {r : List Tk}, PE ae l e r -> r.length < l.length
 | _, _, _, .num _ => by simp
 | _, _, _, .name _ => by simp
 | _, _, _, .node _ _ _ h4 => by have := PW.len h4; simp; omega
theorem PW.len {ae : Bool} : ∀ {ws : List Wt} {l : List Tk} {nm rg : List UInt8} {kids : List PT} {r : List Tk}, PW ae ws l nm rg kids r -> r.length <= l.length
 | _, _, _, _, _, _, .nil => Nat.le_refl _
 | _, _, _, _, _, _, .close _ h1 => by have := PW.len h1; simp; omega
 | _, _, _, _, _, _, .name _ h1 => by have := PW.len h1; simp; omega
 | _, _, _, _, _, _, .region _ h1 => by have := PW.len h1; simp; omega
 | _, _, _, _, _, _, .e h h1 => by have := PE.len h; have := PW.len h1; omega
end
def JI (l : List Wt) : Nat := (l.filter (· = .e)).length
mutual
theorem PE.used {ae : Bool} : ∀ {l : List Tk} {e : PT} {r : List Tk}, PE ae l e r -> e.cnt + r.length <= l.length /\ e.bJ + r.length + 1 <= l.length
 | _, _, _, .num _ => by simp [PT.cnt, PT.bJ]; omega
 | _, _, _, .name _ => by simp [PT.cnt, PT.bJ]; omega
 | _, _, _, .node (k := k) _ _ _ h4 => by have := PW.used h4; simp [PT.cnt, PT.bJ]; split <;> omega
theorem PW.used {ae : Bool} : ∀ {ws : List Wt} {l : List Tk} {nm rg : List UInt8} {kids : List PT} {r : List Tk}, PW ae ws l nm rg kids r -> aB kids + r.length <= l.length /\ jQ kids + r.length <= l.length
 | _, _, _, _, _, _, .nil => by simp [aB, jQ]
 | _, _, _, _, _, _, .close _ h1 => by have := PW.used h1; simp; omega
 | _, _, _, _, _, _, .name _ h1 => by have := PW.used h1; simp; omega
 | _, _, _, _, _, _, .region _ h1 => by have := PW.used h1; simp; omega
 | _, _, _, _, _, _, .e h h1 => by have := PE.used h; have := PW.used h1; simp only [aB, jQ]; omega
end
theorem PE.suffix {ae : Bool} {l : List Tk} {e : PT} {r : List Tk} (h : PE ae l e r) : ∃ t r', l = t :: r' /\ (t.c = .num \/ t.c = .xP \/ t.c = .opn) := by
 cases h with
 | num h => exact ⟨_, _, rfl, Or.inl h⟩
 | name h => exact ⟨_, _, rfl, Or.inr (Or.inl h)⟩
 | node h _ _ _ => exact ⟨_, _, rfl, Or.inr (Or.inr h)⟩
structure TN where
 kind : Nat
 at_ : Nat
 aO : Nat
 word : List UInt8
 num : Int
def bE : Cl -> Nat
 | .bad => 1
 | .opn => 2
 | .cls => 3
 | .xP => 4
 | .num => 5
 | .Ft => 6
 | .kw .bb => 7
 | .kw .pair => 8
 | .kw .fst => 9
 | .kw .snd => 10
 | .kw .fH => 11
 | .kw .add => 12
 | .kw .sub => 13
 | .kw .less => 14
 | .kw .loop => 15
 | .kw .new => 16
def tG (t : Tk) : List UInt8 := match t.c with
 | .xP => t.s
 | .kw _ => t.s
 | _ => []
def Bg (t : Tk) : Int := match t.c with
 | .num => au t.s
 | .Ft => au t.s
 | _ => 0
def gA (t : Tk) : TN := ⟨bE t.c, t.at_, t.at_ + t.s.length, tG t, Bg t⟩
def fS (s : List UInt8) (p : Nat) : List Tk := toks (s.length - p) p (s.drop p)
def eM (len : Nat) (l : List Tk) : TN := match l with
 | [] => ⟨0, len, len, [], 0⟩
 | t :: _ => gA t
structure NR where
 form : Nat
 at_ : Nat
 aO : Nat
 num : Int
 word : List UInt8
 region : Int
 source : Int
 p0 : Int
 p1 : Int
 p2 : Int
structure PS where
 l : List Tk
 fl : Option Nat
 scope : List (List UInt8 × Int)
 nodes : List NR
 opened : List Int
def PS.fail (at_ : Nat) (st : PS) : PS := match st.fl with
 | some _ => st
 | none => { st with fl := some at_, l := [] }
def PS.tail (st : PS) : PS := { st with l := st.l.tail }
def PS.expect (len kind : Nat) (st : PS) : PS := if (eM len st.l).kind ≠ kind then st.tail.fail (eM len st.l).at_ else st.tail
def PS.add (n : NR) (st : PS) : PS := { st with nodes := st.nodes ++ [n] }
def bL (scope : List (List UInt8 × Int)) (w : List UInt8) : Int := match scope.reverse.find? (fun x => x.1 == w) with
 | some x => x.2
 | none => -1
def cG : Nat -> Nat
 | 7 => 3
 | 8 => 4
 | 9 => 5
 | 10 => 6
 | 11 => 7
 | 12 => 8
 | 13 => 9
 | 14 => 10
 | 15 => 11
 | 16 => 12
 | _ => 0
def eO (pE : PS -> Int × PS) (word : List UInt8) (src : Int) (st : PS) : Int × PS :=
 let x := pE { st with scope := st.scope ++ [(word, src)] }
 (x.1, { x.2 with scope := x.2.scope.dropLast })
def Nu (len : Nat) (pE : PS -> Int × PS) (n : NR) (st : PS) : NR × PS :=
 let nm := eM len st.l
 let x := pE (st.expect len 4)
 let y := eO pE nm.word x.1 x.2
 ({ n with word := nm.word, p0 := x.1, p1 := y.1, p2 := -1 }, y.2)
def Fw (len : Nat) (pE : PS -> Int × PS) (n : NR) (st : PS) : NR × PS :=
 let t := pE st
 let nm := eM len t.2.l
 let x := pE (t.2.expect len 4)
 let y := eO pE nm.word x.1 x.2
 ({ n with word := nm.word, p0 := t.1, p1 := x.1, p2 := y.1 }, y.2)
def jR (len : Nat) (n : NR) (st : PS) : NR × PS := ({ n with region := (eM len st.l).num }, st.expect len 6)
def u7 (pE : PS -> Int × PS) (n : NR) (st : PS) : NR × PS :=
 let x := pE st
 ({ n with p0 := x.1 }, x.2)
def tH (pE : PS -> Int × PS) (n : NR) (st : PS) : NR × PS :=
 let x := u7 pE n st
 let y := pE x.2
 ({ x.1 with p1 := y.1 }, y.2)
def Bh (pE : PS -> Int × PS) (n : NR) (st : PS) : NR × PS :=
 let x := tH pE n st
 let y := pE x.2
 ({ x.1 with p2 := y.1 }, y.2)
def nF (ae : Bool) (len : Nat) (pE : PS -> Int × PS) (n : NR) (st : PS) : NR × PS :=
 if n.form = 3 then Nu len pE n st
 else if n.form = 11 then Fw len pE n st
 else if n.form = 4 then (if ae then tH pE (jR len n st).1 (jR len n st).2 else tH pE n st)
 else if n.form = 12 then u7 pE (jR len n st).1 (jR len n st).2
 else if n.form = 5 \/ n.form = 6 then u7 pE n st
 else if n.form = 7 then Bh pE n st
 else tH pE n st
def gj (ae : Bool) (len : Nat) (pE : PS -> Int × PS) (n : NR) (st : PS) : Int × PS :=
 let w := eM len st.l
 let f := cG w.kind
 if f = 0 \/ (f = 12 /\ ae = false) then (-1, st.tail.fail w.at_)
 else
  let x := nF ae len pE { n with form := f } st.tail
  let e := eM len x.2.l
  (((x.2.expect len 3).nodes.length : Int), (x.2.expect len 3).add { x.1 with aO := e.aO })
def iP (t : TN) : NR := ⟨0, t.at_, t.aO, 0, [], 0, -1, -1, -1, -1⟩
def gT (len : Nat) (pB : NR -> PS -> Int × PS) (st : PS) : Int × PS :=
 let t := eM len st.l
 if t.kind = 5 then ((st.nodes.length : Int), st.tail.add { iP t with form := 1, num := t.num })
 else if t.kind = 4 then ((st.nodes.length : Int), st.tail.add { iP t with form := 2, word := t.word, source := bL st.scope t.word })
 else if t.kind = 2 then pB (iP t) st.tail
 else (-1, st.tail.fail t.at_)
def gU (f : PS -> Int × PS) (st : PS) : Int × PS :=
 let x := f { st with opened := st.opened ++ [-1] }
 (x.1, { x.2 with opened := x.2.opened.set st.opened.length x.1 })
def eQ (ae : Bool) (len : Nat) : Nat -> PS -> Int × PS
 | 0 => gU (gT len fun _ st => (-1, st))
 | m + 1 => gU (gT len (gj ae len (eQ ae len m)))
theorem G7 (c : Cl) : bE c = 5 ↔ c = .num := by
 cases c with
 | kw k => cases k <;> decide
 | _ => decide
theorem lU (c : Cl) : bE c = 4 ↔ c = .xP := by
 cases c with
 | kw k => cases k <;> decide
 | _ => decide
theorem G8 (c : Cl) : bE c = 2 ↔ c = .opn := by
 cases c with
 | kw k => cases k <;> decide
 | _ => decide
theorem sB (c : Cl) : bE c = 3 ↔ c = .cls := by
 cases c with
 | kw k => cases k <;> decide
 | _ => decide
theorem ow (c : Cl) : bE c = 6 ↔ c = .Ft := by
 cases c with
 | kw k => cases k <;> decide
 | _ => decide
def PS.stuck (q : Nat) (st : PS) : Prop := st.fl = some q /\ st.l = []
theorem u9 {q a : Nat} {st : PS} (h : st.stuck q) : (st.fail a).stuck q := by
 obtain ⟨h1, h2⟩ := h
 unfold PS.fail; rw [h1]; exact ⟨h1, h2⟩
theorem pS {q : Nat} {st : PS} (h : st.stuck q) : st.tail.stuck q := ⟨h.1, by simp [PS.tail, h.2]⟩
theorem dH {q len k : Nat} {st : PS} (h : st.stuck q) : (st.expect len k).stuck q := by
 unfold PS.expect; split
 ·exact u9 (pS h)
 ·exact pS h
theorem kB {a : Nat} {st : PS} (h : st.fl = none) : (st.fail a).stuck a := by
 unfold PS.fail; rw [h]; exact ⟨rfl, rfl⟩
def ve (pE : PS -> Int × PS) : Prop := ∀ (q : Nat) (st : PS), st.stuck q -> (pE st).2.stuck q
theorem yx (len : Nat) (pB : NR -> PS -> Int × PS) : ve (gT len pB) := by
 intro q st h
 unfold gT
 simp only [h.2, eM]
 exact u9 (pS h)
theorem vf {f : PS -> Int × PS} (hf : ve f) : ve (gU f) := by
 intro q st h
 exact hf q { st with opened := st.opened ++ [-1] } h
theorem DK (ae : Bool) (len n : Nat) : ve (eQ ae len n) := by
 cases n with
 | zero => exact vf (yx _ _)
 | succ m => exact vf (yx _ _)
theorem DL {pE : PS -> Int × PS} (h : ve pE) (w : List UInt8) (src : Int) {q : Nat} {st : PS} (hs : st.stuck q) : (eO pE w src st).2.stuck q := h q { st with scope := st.scope ++ [(w, src)] } hs
theorem nG (st : PS) : st.tail.l.length <= st.l.length := by simp [PS.tail]
def bA (s : ByteArray) (a : Nat) : UInt8 := if h : a < s.size then s[a] else 0
theorem vg (s : ByteArray) (a : Nat) (h : a < s.size) : bA s a = s[a] := by unfold bA; rw [dif_pos h]
theorem JJ (s : ByteArray) (a : Nat) (h : s.size <= a) : bA s a = 0 := by unfold bA; rw [dif_neg (by omega)]
theorem kC (s : ByteArray) (a : Nat) (w : World) (ha : a <= 10000) :
  Calls Tryz.prog 192 #[.string s, .int .i64 a] w fun e w' => e = .returned (.int .u8 ((bA s a).toNat : Int)) /\ w' = w := by
 by_cases h : a < s.size
 ·rw [vg s a h]
  go_enter Tryz.func192, Tryz.ntmps192
  go_wp2
  go_ret
  exact ⟨rfl, rfl⟩
 ·rw [JJ s a (by omega)]
  go_enter Tryz.func192, Tryz.ntmps192
  go_wp2
  go_ret
  exact ⟨rfl, rfl⟩
theorem qZ (c : UInt8) (w : World) :
  Calls Tryz.prog 193 #[.int .u8 (c.toNat : Int)] w fun e w' => e = .returned (.bool (j7 97 122 c)) /\ w' = w := by
 have hc : c.toNat < 256 := c.toNat_lt
 unfold j7
 go_enter Tryz.func193, Tryz.ntmps193
 go_wp2
 all_goals go_ret
 ·refine ⟨nE ?_, rfl⟩
  have h1 : (97 : Int) <= (c.toNat : Int) := by assumption
  simp [h1]
 ·refine ⟨nE ?_, rfl⟩
  have h1 : ¬ (97 : Int) <= (c.toNat : Int) := by omega
  simp [h1]
theorem tI (c : UInt8) (w : World) :
  Calls Tryz.prog 195 #[.int .u8 (c.toNat : Int)] w fun e w' => e = .returned (.bool (j7 48 57 c)) /\ w' = w := by
 have hc : c.toNat < 256 := c.toNat_lt
 unfold j7
 go_enter Tryz.func195, Tryz.ntmps195
 go_wp2
 all_goals go_ret
 ·refine ⟨nE ?_, rfl⟩
  have h1 : (48 : Int) <= (c.toNat : Int) := by assumption
  simp [h1]
 ·refine ⟨nE ?_, rfl⟩
  have h1 : ¬ (48 : Int) <= (c.toNat : Int) := by omega
  simp [h1]
theorem tJ (c : UInt8) (w : World) :
  Calls Tryz.prog 202 #[.int .u8 (c.toNat : Int)] w fun e w' => e = .returned (.bool (dY c)) /\ w' = w := by
 have e1 : ((c.toNat : Int) == 32) = (c == 32) := ou c 32
 have e2 : ((c.toNat : Int) == 10) = (c == 10) := ou c 10
 unfold dY
 rw [<- e1, <- e2]
 clear e1 e2
 go_enter Tryz.func202, Tryz.ntmps202
 go_wp2
 all_goals go_ret
 all_goals
  refine ⟨nE ?_, rfl⟩
  simp_all
def uh : List UInt8 -> Nat
 | [] => 0
 | c :: r => if dY c then uh r + 1 else 0
theorem JK (l : List UInt8) : uh l <= l.length := by
 induction l with
 | nil => simp [uh]
 | cons c r ih => simp only [uh]; split <;> simp <;> omega
theorem vh (s : ByteArray) (a : Nat) (w : World) (hs : s.size <= 9000) (ha : a <= s.size) :
  Calls Tryz.prog 191 #[.string s, .int .i64 a] w fun e w' => e = .returned (.int .i64 ((a + uh (s.data.toList.drop a) : Nat) : Int)) /\ w' = w := by
 have hby := fun k (h : k <= 10000) w => kC s k w h
 go_enter Tryz.func191, Tryz.ntmps191
 go_wp2
 go_loop [5] (fun i => ∃ k : Nat, k <= s.size /\ i = .int .i64 k /\ a + uh (s.data.toList.drop a) = k + uh (s.data.toList.drop k)) (fun i => s.size - (intOf i).toNat)
 case atStart => exact ⟨a, ha, rfl, rfl⟩
 case round =>
  obtain ⟨k, hk, rfl, hr⟩ := hrel
  have HR : Hid _ := hr
  clear hr
  by_cases hlt : k < s.size
  ·by_cases hb : dY s[k] = true
   ·have hn : uh (s.data.toList.drop k) = uh (s.data.toList.drop (k + 1)) + 1 := by rw [drop_cons s k hlt]; simp [uh, hb]
    have HN : Hid _ := hn
    have hbl := fun w => tJ s[k] w
    rw [hb] at hbl
    have hbk := hby k (by omega)
    rw [vg s k hlt] at hbk
    clear hn hb
    go_wp2_with (first
     | (go_at_call 192; refine (hbk _).mono ?_; rintro e w' ⟨rfl, rfl⟩)
     | (go_at_call 202; refine (hbl _).mono ?_; rintro e w' ⟨rfl, rfl⟩))
    go_round
    case rel => exact ⟨k + 1, by omega, by go_num, by rw [HR.out, HN.out]; omega⟩
    case measure => simp [intOf]; omega
   ·have hb0 : dY s[k] = false := by simpa using hb
    have hn : uh (s.data.toList.drop k) = 0 := by rw [drop_cons s k hlt]; simp [uh, hb0]
    have HN : Hid _ := hn
    have hbl := fun w => tJ s[k] w
    rw [hb0] at hbl
    have hbk := hby k (by omega)
    rw [vg s k hlt] at hbk
    clear hn hb hb0
    go_wp2_with (first
     | (go_at_call 192; refine (hbk _).mono ?_; rintro e w' ⟨rfl, rfl⟩)
     | (go_at_call 202; refine (hbl _).mono ?_; rintro e w' ⟨rfl, rfl⟩))
    go_ret
    exact ⟨jO (by have h1 := HR.out; have h2 := HN.out; omega), rfl⟩
  ·have hn : uh (s.data.toList.drop k) = 0 := by rw [qY s k (by omega)]; rfl
   have HN : Hid _ := hn
   clear hn
   go_wp2
   go_ret
   exact ⟨jO (by have h1 := HR.out; have h2 := HN.out; omega), rfl⟩
theorem Bi (s : ByteArray) (a n b : Nat) (w : World) (hs : s.size <= 9000) (hab : b = a + n) (ha : b <= s.size) (hn : n <= 5) (hd : ∀ c ∈ (s.data.toList.drop a).take n, c ≠ 35) :
  Calls Tryz.prog 205 #[.string s, .int .i64 a, .int .i64 b] w fun e w' => e = .returned (.int .i64 (au ((s.data.toList.drop a).take n))) /\ w' = w := by
 have hby := fun k (h : k <= 10000) w => kC s k w h
 have HD : Hid _ := hd
 clear hd
 go_enter Tryz.func205, Tryz.ntmps205
 go_wp2
 go_loop [7, 8] (fun v i => ∃ k j : Nat, k <= n /\ j = a + k /\ i = .int .i64 j /\ v = .int .i64 (au ((s.data.toList.drop a).take k))) (fun _ i => b - (intOf i).toNat)
 case atStart => exact ⟨0, a, by omega, rfl, rfl, rfl⟩
 case round =>
  obtain ⟨k, j, hk, hj, rfl, rfl⟩ := hrel
  have hb := GX ((s.data.toList.drop a).take k)
  have hp := Uu ((s.data.toList.drop a).take k).length (by simp; omega)
  obtain ⟨m, hm⟩ : ∃ m, m = au ((s.data.toList.drop a).take k) := ⟨_, rfl⟩
  rw [<- hm] at hb
  obtain ⟨hb1, hb2⟩ : -3000000 <= m /\ m <= 3000000 := by omega
  clear hp hb
  by_cases hlt : k < n
  ·have hin : j < s.size := by omega
   have iF : au ((s.data.toList.drop a).take (k + 1)) = 10 * m + (s[j].toNat : Int) - 48 := by
    have e : (s.data.toList.drop a).take (k + 1) = (s.data.toList.drop a).take k ++ [s[j]] := by
     subst hj; rw [List.take_succ_eq_append_getElem (by simp; omega), List.getElem_drop]; rfl
    have hne : s[j] ≠ 35 := by
     apply HD.out
     have : s[j] ∈ (s.data.toList.drop a).take (k + 1) := by rw [e]; simp
     rw [show (s.data.toList.drop a).take (k + 1) = ((s.data.toList.drop a).take n).take (k + 1) from by rw [List.take_take, Nat.min_eq_left (by omega)]] at this
     exact List.mem_of_mem_take this
    rw [e, tE, if_neg hne, hm]
   have HS : Hid _ := iF
   have uD : s[j].toNat < 256 := s[j].toNat_lt
   have HC : Hid _ := uD
   have hbk := hby j (by omega)
   rw [vg s j hin] at hbk
   clear iF uD
   rw [<- hm]
   have HM : Hid _ := hm
   clear hm
   have HJ : Hid (j = a + k) := hj
   have hjb : j < b := by omega
   have Nv : Hid (b = a + n) := hab
   clear hj hab
   go_wp2_with fail
   refine (hbk _).mono ?_
   rintro e w' ⟨rfl, rfl⟩
   go_wp2
   go_round
   case rel =>
    have := HJ.out
    refine ⟨k + 1, j + 1, by omega, by omega, by go_num, ?_⟩
    rw [HS.out]
    have := HC.out
    rw [IntWalk.wrap64_in (s[j].toNat : Int) (by omega), IntWalk.wrap64_in (m * 10 + (s[j].toNat : Int)) (by omega), IntWalk.wrap64_in _ (by omega), Int.mul_comm m 10]
   case measure => simp [intOf]; omega
  ·have hkn : k = n := by omega
   subst hkn
   go_wp2
   go_ret
   exact ⟨rfl, rfl⟩
theorem Nw (s : ByteArray) (a b : Nat) (w : World) (ha : a <= b) (hb : b <= s.size) :
  Calls Tryz.prog 203 #[.string s, .int .i64 a, .int .i64 b] w fun e w' => e = .returned (.string (s.extract a b)) /\ w' = w := by
 go_enter Tryz.func203, Tryz.ntmps203
 go_wp2
 go_ret
 exact ⟨rfl, rfl⟩
theorem lG (s : ByteArray) (k : Kw) : (s.toList == k.bytes) = decide (uf s.data.toList = some k) := by
 rw [Lib.toList_data]
 by_cases h : uf s.data.toList = some k
 ·rw [decide_eq_true h, sx h]; simp
 ·rw [decide_eq_false h, beq_eq_false_iff_ne]
  intro e; rw [e, uY] at h; exact h rfl
theorem DM (s : ByteArray) (w : World) :
  Calls Tryz.prog 204 #[.string s] w fun e w' => e = .returned (.int .i64 ((bE (dX s.data.toList 0) : Nat) : Int)) /\ w' = w := by
 have f1 := lG s .bb
 have f2 := lG s .pair
 have f3 := lG s .fst
 have f4 := lG s .snd
 have f5 := lG s .fH
 have f6 := lG s .add
 have f7 := lG s .sub
 have f8 := lG s .less
 have f9 := lG s .loop
 have f10 := lG s .new
 simp only [Kw.bytes] at f1 f2 f3 f4 f5 f6 f7 f8 f9 f10
 unfold dX
 cases hk : uf s.data.toList with
 | none =>
  rw [hk] at f1 f2 f3 f4 f5 f6 f7 f8 f9 f10
  simp only [reduceCtorEq, decide_false] at f1 f2 f3 f4 f5 f6 f7 f8 f9 f10
  clear hk
  go_enter Tryz.func204, Tryz.ntmps204
  go_wp2
  go_ret
  exact ⟨rfl, rfl⟩
 | some k =>
  rw [hk] at f1 f2 f3 f4 f5 f6 f7 f8 f9 f10
  clear hk
  cases k
  all_goals
   simp only [Option.some.injEq, reduceCtorEq, decide_false, decide_true] at f1 f2 f3 f4 f5 f6 f7 f8 f9 f10
   go_enter Tryz.func204, Tryz.ntmps204
   go_wp2
   go_ret
   exact ⟨rfl, rfl⟩
def gV (t : TN) : Value := .agg #[.int .i64 t.kind, .int .i64 t.at_, .int .i64 t.aO, .string (bs t.word), .int .i64 t.num]
theorem JL (s : ByteArray) (k : Nat) (lo hi : Int) (hlo : 0 < lo) : (j7 lo hi (bA s k) = true /\ k < s.size /\ run lo hi (s.data.toList.drop k) = run lo hi (s.data.toList.drop (k + 1)) + 1) \/ (j7 lo hi (bA s k) = false /\ run lo hi (s.data.toList.drop k) = 0) := by
 by_cases h : k < s.size
 ·rw [vg s k h, drop_cons s k h]
  cases hb : j7 lo hi s[k] with
  | true => left; exact ⟨rfl, h, by simp [run, hb]⟩
  | false => right; exact ⟨rfl, by simp [run, hb]⟩
 ·right
  rw [JJ s k (by omega), qY s k (by omega)]
  refine ⟨?_, rfl⟩
  unfold j7
  have h0 : ((0 : UInt8).toNat : Int) = 0 := rfl
  rw [h0, decide_eq_false (by omega : ¬ lo <= 0)]; rfl
theorem zJ (l : List UInt8) (n : Nat) (h : n <= 8) : dX l n = dX l 0 := by
 unfold dX; cases uf l <;> simp [h]
theorem vk (l : List UInt8) (h : 8 < l.length) : dX l l.length = .bad := by
 unfold dX
 cases hk : uf l with
 | none => simp; omega
 | some k =>
  have := sx hk
  rw [this] at h
  clear this hk
  revert h
  cases k <;> simp [Kw.bytes]
theorem zK (s : ByteArray) (a n : Nat) (w : World) (hs : s.size <= 9000) (hn : n = run 97 122 (s.data.toList.drop a)) (ha : a + n <= s.size) :
  Calls Tryz.prog 194 #[.string s, .int .i64 a] w fun e w' => e = .returned (gV ⟨bE (dX ((s.data.toList.drop a).take n) n), a, a + n, if n <= 8 then (s.data.toList.drop a).take n else [], 0⟩) /\ Below w.heap.size w w' := by
 have hby := fun k (h : k <= 10000) w => kC s k w h
 have HN : Hid _ := hn
 clear hn
 go_enter Tryz.func194, Tryz.ntmps194
 go_wp2
 go_loop [5] (fun i => ∃ k j : Nat, k <= n /\ Hid (j = a + k) /\ j <= s.size /\ i = .int .i64 j /\ Hid (n = k + run 97 122 (s.data.toList.drop j))) (fun i => s.size - (intOf i).toNat)
 case atStart => exact ⟨0, a, by omega, (rfl : a = a + 0), by omega, rfl, (by rw [<- HN.out]; omega : n = 0 + run 97 122 (s.data.toList.drop a))⟩
 case round =>
  obtain ⟨k, j, hk, HJ, hjs, rfl, HR⟩ := hrel
  have hbk := hby j (by omega)
  have lP := fun w => qZ (bA s j) w
  rcases JL s j 97 122 (by decide) with ⟨h1, h2, h3⟩ | ⟨h1, h2⟩
  ·rw [h1] at lP
   have H3 : Hid _ := h3
   clear h1 h3
   go_wp2_with (first
    | (go_at_call 192; refine (hbk _).mono ?_; rintro e w' ⟨rfl, rfl⟩)
    | (go_at_call 193; refine (lP _).mono ?_; rintro e w' ⟨rfl, rfl⟩))
   go_round
   case rel => exact ⟨k + 1, j + 1, by have h := HR.out; rw [H3.out] at h; omega, (by have h := HJ.out; omega : j + 1 = a + (k + 1)), by omega, by go_num, (by have h := HR.out; rw [H3.out] at h; omega : n = (k + 1) + run 97 122 (s.data.toList.drop (j + 1)))⟩
   case measure => simp [intOf]; omega
  ·rw [h1] at lP
   have hkn : k = n := by have h := HR.out; rw [h2] at h; omega
   have TF : j = a + n := by rw [<- hkn]; exact HJ.out
   clear h1 h2 HR
   have hcu := fun w => Nw s a j w (by omega) hjs
   have Xu := fun w => DM (s.extract a j) w
   have hex : (s.extract a j).data.toList = (s.data.toList.drop a).take n := by rw [TF, QZ]
   rw [hex] at Xu
   have Bj : Hid _ := PZ hex
   have Nx : Hid (j = a + n) := TF
   have hjk : (j : Int) - (a : Int) = (n : Int) := by omega
   clear hex TF hkn HJ hk
   by_cases h8 : n <= 8
   ·have H8 : Hid (n <= 8) := h8
    go_wp2_with (first
     | (go_at_call 192; refine (hbk _).mono ?_; rintro e w' ⟨rfl, rfl⟩)
     | (go_at_call 193; refine (lP _).mono ?_; rintro e w' ⟨rfl, rfl⟩)
     | (go_at_call 203; refine (hcu _).mono ?_; rintro e w' ⟨rfl, rfl⟩)
     | (go_at_call 204; refine (Xu _).mono ?_; rintro e w' ⟨rfl, rfl⟩))
    refine bodyPost_ret (v := .agg #[.int .i64 ((bE (dX ((s.data.toList.drop a).take n) 0) : Nat) : Int), .int .i64 a, .int .i64 j, .string (s.extract a j), .int .i64 0]) (by simp [results, Tryz.results194, go_sem]) rfl ⟨?_, (Below.refl _ _).alloc (Nat.le_refl _) _⟩
    rw [Bj.out, Nx.out, zJ _ _ H8.out]; first | rfl | (rw [if_pos H8.out]; rfl)
   ·have H8 : Hid (¬ n <= 8) := h8
    have hlen : ((s.data.toList.drop a).take n).length = n := by simp; omega
    have HB : Hid (dX ((s.data.toList.drop a).take n) n = .bad) := by
     have := vk ((s.data.toList.drop a).take n) (by omega)
     rw [hlen] at this; exact this
    clear hlen
    go_wp2_with (first
     | (go_at_call 192; refine (hbk _).mono ?_; rintro e w' ⟨rfl, rfl⟩)
     | (go_at_call 193; refine (lP _).mono ?_; rintro e w' ⟨rfl, rfl⟩))
    refine bodyPost_ret (v := .agg #[.int .i64 1, .int .i64 a, .int .i64 j, .string ⟨#[]⟩, .int .i64 0]) (by simp [results, Tryz.results194, go_sem]) rfl ⟨?_, (Below.refl _ _).alloc (Nat.le_refl _) _⟩
    rw [HB.out, Nx.out]; first | rfl | (rw [if_neg H8.out]; rfl)
theorem Ny (lo hi : Int) (l : List UInt8) : ∀ c ∈ l.take (run lo hi l), j7 lo hi c = true := by
 induction l with
 | nil => simp
 | cons c r ih =>
  simp only [run]
  by_cases h : j7 lo hi c = true
  ·rw [if_pos h, List.take_succ_cons]
   intro x hx
   rcases List.mem_cons.1 hx with rfl | hx
   ·exact h
   ·exact ih x hx
  ·rw [if_neg h]; simp
def kD (l : List UInt8) (most kind a d n : Nat) : TN := if bY (l.take n) most then ⟨kind, a, d + n, [], au (l.take n)⟩ else ⟨1, a, d + n, [], 0⟩
theorem nH (s : ByteArray) (a d n most kind : Nat) (w : World) (hs : s.size <= 9000) (hn : n = run 48 57 (s.data.toList.drop d)) (ha : d + n <= s.size) (hm : 3 <= most /\ most <= 4) :
  Calls Tryz.prog 196 #[.string s, .int .i64 a, .int .i64 d, .int .i64 most, .int .i64 kind] w fun e w' => e = .returned (gV (kD (s.data.toList.drop d) most kind a d n)) /\ Below w.heap.size w w' := by
 have hby := fun k (h : k <= 10000) w => kC s k w h
 have Uv : ∀ c ∈ (s.data.toList.drop d).take n, c ≠ 35 := by
  rw [hn]; intro c hc e
  have := Ny 48 57 _ c hc
  rw [e] at this; revert this; decide
 have Yr : Hid _ := Uv
 have HN : Hid _ := hn
 have hlen : ((s.data.toList.drop d).take n).length = n := by simp; omega
 have hhead : 0 < n -> ((s.data.toList.drop d).take n).head? = some (bA s d) := by
  intro h0
  rw [vg s d (by omega), drop_cons s d (by omega)]
  obtain ⟨m, rfl⟩ : ∃ m, n = m + 1 := ⟨n - 1, by omega⟩
  simp
 have oV : bY ((s.data.toList.drop d).take n) most = (decide (0 < n) && decide (n <= most) && (decide (n = 1) || (((s.data.toList.drop d).take n).head? != some 48))) := by unfold bY; rw [hlen]
 have xR : Hid _ := oV
 have Uw : Hid _ := hhead
 clear hn Uv hlen oV hhead
 go_enter Tryz.func196, Tryz.ntmps196
 go_wp2
 go_loop [11] (fun i => ∃ k j : Nat, k <= n /\ Hid (j = d + k) /\ j <= s.size /\ i = .int .i64 j /\ Hid (n = k + run 48 57 (s.data.toList.drop j))) (fun i => s.size - (intOf i).toNat)
 case atStart => exact ⟨0, d, by omega, (rfl : d = d + 0), by omega, rfl, (by rw [<- HN.out]; omega : n = 0 + run 48 57 (s.data.toList.drop d))⟩
 case round =>
  obtain ⟨k, j, hk, HJ, hjs, rfl, HR⟩ := hrel
  have hbk := hby j (by omega)
  have lP := fun w => tI (bA s j) w
  rcases JL s j 48 57 (by decide) with ⟨h1, h2, h3⟩ | ⟨h1, h2⟩
  ·rw [h1] at lP
   have H3 : Hid _ := h3
   clear h1 h3
   go_wp2_with (first
    | (go_at_call 192; refine (hbk _).mono ?_; rintro e w' ⟨rfl, rfl⟩)
    | (go_at_call 195; refine (lP _).mono ?_; rintro e w' ⟨rfl, rfl⟩))
   go_round
   case rel => exact ⟨k + 1, j + 1, by have h := HR.out; rw [H3.out] at h; omega, (by have h := HJ.out; omega : j + 1 = d + (k + 1)), by omega, by go_num, (by have h := HR.out; rw [H3.out] at h; omega : n = (k + 1) + run 48 57 (s.data.toList.drop (j + 1)))⟩
   case measure => simp [intOf]; omega
  ·rw [h1] at lP
   have hkn : k = n := by have h := HR.out; rw [h2] at h; omega
   have TF : j = d + n := by rw [<- hkn]; exact HJ.out
   clear h1 h2 HR
   have Nx : Hid (j = d + n) := TF
   have hjk : (j : Int) - (d : Int) = (n : Int) := by omega
   have gB := hby d (by omega)
   have e48 : (((bA s d).toNat : Int) == 48) = (bA s d == 48) := ou (bA s d) 48
   have Ux : Hid _ := e48
   clear TF hkn HJ hk e48
   by_cases c0 : n = 0
   ·have b0 : ((n : Int) == 0) = true := by rw [c0]; rfl
    have HF : Hid (kD (s.data.toList.drop d) most kind a d n = ⟨1, a, d + n, [], 0⟩) := by
     have : bY ((s.data.toList.drop d).take n) most = false := by rw [xR.out]; simp [c0]
     unfold kD; rw [this]; rfl
    have c0' : n < 1 := by omega
    clear c0
    go_wp2_with (first
     | (go_at_call_of 192 (Value.int IntKind.i64 (j : Int)); refine (hbk _).mono ?_; rintro e w' ⟨rfl, rfl⟩)
     | (go_at_call_of 192 (Value.int IntKind.i64 (d : Int)); refine (gB _).mono ?_; rintro e w' ⟨rfl, rfl⟩)
     | (go_at_call 195; refine (lP _).mono ?_; rintro e w' ⟨rfl, rfl⟩)
     | (go_at_call 205; refine (Q0 _).mono ?_; rintro e w' ⟨rfl, rfl⟩))
    refine bodyPost_ret (v := .agg #[.int .i64 1, .int .i64 a, .int .i64 j, .string ⟨#[]⟩, .int .i64 0]) (by simp [results, Tryz.results196, go_sem]) rfl ⟨?_, (Below.refl _ _).alloc (Nat.le_refl _) _⟩
    rw [HF.out, Nx.out]; rfl
   ·have b0 : ((n : Int) == 0) = false := by rw [beq_eq_false_iff_ne]; omega
    have c1 : 1 <= n := by omega
    have hh := Uw.out (by omega)
    by_cases cm : n <= most
    ·have Q0 := fun w => Bi s d n j w hs Nx.out hjs (by omega) Yr.out
     by_cases c2 : n = 1
     ·have HF : Hid (kD (s.data.toList.drop d) most kind a d n = ⟨kind, a, d + n, [], au ((s.data.toList.drop d).take n)⟩) := by
       have : bY ((s.data.toList.drop d).take n) most = true := by rw [xR.out]; simp [c2]; omega
       unfold kD; rw [this]; rfl
      have TG : n < 2 := by omega
      clear c2 hh c0
      go_wp2_with (first
       | (go_at_call_of 192 (Value.int IntKind.i64 (j : Int)); refine (hbk _).mono ?_; rintro e w' ⟨rfl, rfl⟩)
       | (go_at_call_of 192 (Value.int IntKind.i64 (d : Int)); refine (gB _).mono ?_; rintro e w' ⟨rfl, rfl⟩)
       | (go_at_call 195; refine (lP _).mono ?_; rintro e w' ⟨rfl, rfl⟩)
       | (go_at_call 205; refine (Q0 _).mono ?_; rintro e w' ⟨rfl, rfl⟩))
      refine bodyPost_ret (v := .agg #[.int .i64 kind, .int .i64 a, .int .i64 j, .string ⟨#[]⟩, .int .i64 (au ((s.data.toList.drop d).take n))]) (by simp [results, Tryz.results196, go_sem]) rfl ⟨?_, (Below.refl _ _).alloc (Nat.le_refl _) _⟩
      rw [HF.out, Nx.out]; rfl
     ·cases e0 : (bA s d == 48) with
      | true =>
       have b48 : (((bA s d).toNat : Int) == 48) = true := by rw [Ux.out]; exact e0
       have HF : Hid (kD (s.data.toList.drop d) most kind a d n = ⟨1, a, d + n, [], 0⟩) := by
        have h48 : bA s d = 48 := by simpa using e0
        have : bY ((s.data.toList.drop d).take n) most = false := by rw [xR.out, hh, h48]; simp [c2]
        unfold kD; rw [this]; rfl
       have TG : 1 < n := by omega
       clear c2 hh c0 e0
       go_wp2_with (first
        | (go_at_call_of 192 (Value.int IntKind.i64 (j : Int)); refine (hbk _).mono ?_; rintro e w' ⟨rfl, rfl⟩)
        | (go_at_call_of 192 (Value.int IntKind.i64 (d : Int)); refine (gB _).mono ?_; rintro e w' ⟨rfl, rfl⟩)
        | (go_at_call 195; refine (lP _).mono ?_; rintro e w' ⟨rfl, rfl⟩)
        | (go_at_call 205; refine (Q0 _).mono ?_; rintro e w' ⟨rfl, rfl⟩))
       refine bodyPost_ret (v := .agg #[.int .i64 1, .int .i64 a, .int .i64 j, .string ⟨#[]⟩, .int .i64 0]) (by simp [results, Tryz.results196, go_sem]) rfl ⟨?_, (Below.refl _ _).alloc (Nat.le_refl _) _⟩
       rw [HF.out, Nx.out]; rfl
      | false =>
       have b48 : (((bA s d).toNat : Int) == 48) = false := by rw [Ux.out]; exact e0
       have HF : Hid (kD (s.data.toList.drop d) most kind a d n = ⟨kind, a, d + n, [], au ((s.data.toList.drop d).take n)⟩) := by
        have h48 : bA s d ≠ 48 := by simpa using e0
        have : bY ((s.data.toList.drop d).take n) most = true := by rw [xR.out, hh]; simp [h48, cm]; omega
        unfold kD; rw [this]; rfl
       have TG : 1 < n := by omega
       clear c2 hh c0 e0
       go_wp2_with (first
        | (go_at_call_of 192 (Value.int IntKind.i64 (j : Int)); refine (hbk _).mono ?_; rintro e w' ⟨rfl, rfl⟩)
        | (go_at_call_of 192 (Value.int IntKind.i64 (d : Int)); refine (gB _).mono ?_; rintro e w' ⟨rfl, rfl⟩)
        | (go_at_call 195; refine (lP _).mono ?_; rintro e w' ⟨rfl, rfl⟩)
        | (go_at_call 205; refine (Q0 _).mono ?_; rintro e w' ⟨rfl, rfl⟩))
       refine bodyPost_ret (v := .agg #[.int .i64 kind, .int .i64 a, .int .i64 j, .string ⟨#[]⟩, .int .i64 (au ((s.data.toList.drop d).take n))]) (by simp [results, Tryz.results196, go_sem]) rfl ⟨?_, (Below.refl _ _).alloc (Nat.le_refl _) _⟩
       rw [HF.out, Nx.out]; rfl
    ·have HF : Hid (kD (s.data.toList.drop d) most kind a d n = ⟨1, a, d + n, [], 0⟩) := by
      have : bY ((s.data.toList.drop d).take n) most = false := by rw [xR.out]; simp [cm]
      unfold kD; rw [this]; rfl
     have TG : 1 < n := by omega
     clear hh c0
     go_wp2_with (first
      | (go_at_call_of 192 (Value.int IntKind.i64 (j : Int)); refine (hbk _).mono ?_; rintro e w' ⟨rfl, rfl⟩)
      | (go_at_call_of 192 (Value.int IntKind.i64 (d : Int)); refine (gB _).mono ?_; rintro e w' ⟨rfl, rfl⟩)
      | (go_at_call 195; refine (lP _).mono ?_; rintro e w' ⟨rfl, rfl⟩)
      | (go_at_call 205; refine (Q0 _).mono ?_; rintro e w' ⟨rfl, rfl⟩))
     refine bodyPost_ret (v := .agg #[.int .i64 1, .int .i64 a, .int .i64 j, .string ⟨#[]⟩, .int .i64 0]) (by simp [results, Tryz.results196, go_sem]) rfl ⟨?_, (Below.refl _ _).alloc (Nat.le_refl _) _⟩
     rw [HF.out, Nx.out]; rfl
end Go.Proofs.YtpicaknklgccoaaGreatDoor
