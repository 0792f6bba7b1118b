import Derived.Test.YtpicaknklgccoaaGreatDoorProg
import Derived.WalkKit
import Derived.WalkSpells
import Derived.WalkLawsBesides
import Derived.Lib.Strings
import Derived.Lib.IndexBytes
import Derived.Deep.RegionWith
namespace Go.Proofs.YtpicaknklgccoaaGreatDoor
def inB (lo hi : Int) (c : UInt8) : Bool := decide (lo ≤ (c.toNat : Int)) && decide ((c.toNat : Int) ≤ hi)
def run (lo hi : Int) : List UInt8 → Nat
 | [] => 0
 | c :: r => if inB lo hi c then run lo hi r + 1 else 0
theorem run_le (lo hi : Int) (l : List UInt8) : run lo hi l ≤ l.length := by
 induction l with
 | nil => simp [run]
 | cons c r ih => simp only [run]; split <;> simp <;> omega
def numeralB (l : List UInt8) (most : Nat) : Bool := decide (0 < l.length) && decide (l.length ≤ most) && (decide (l.length = 1) || (l.head? != some 48))
def valueL (l : List UInt8) : Int := l.foldl (fun n c => if c = 35 then n else 10 * n + (c.toNat : Int) - 48) 0
theorem valueL_snoc (l : List UInt8) (c : UInt8) : valueL (l ++ [c]) = if c = 35 then valueL l else 10 * valueL l + (c.toNat : Int) - 48 := by
 unfold valueL; rw [List.foldl_append]; rfl
theorem fold_bd (l : List UInt8) : ∀ (j : Nat) (a : Int), -(30 * 10 ^ j - 30) ≤ a → a ≤ 30 * 10 ^ j - 30 →
  -(30 * 10 ^ (j + l.length) - 30) ≤ l.foldl (fun n c => if c = 35 then n else 10 * n + (c.toNat : Int) - 48) a ∧ l.foldl (fun n c => if c = 35 then n else 10 * n + (c.toNat : Int) - 48) a ≤ 30 * 10 ^ (j + l.length) - 30 := by
 induction l with
 | nil => intro j a h1 h2; exact ⟨h1, h2⟩
 | cons c r ih =>
  intro j a h1 h2
  have hp : 0 < (10 : Int) ^ j := Int.pow_pos (by omega)
  have hc : c.toNat < 256 := c.toNat_lt
  have e : (10 : Int) ^ (j + 1) = 10 * 10 ^ j := by rw [Int.pow_succ]; omega
  have := ih (j + 1) (if c = 35 then a else 10 * a + (c.toNat : Int) - 48) (by rw [e]; split <;> omega) (by rw [e]; split <;> omega)
  rw [List.length_cons, show j + (r.length + 1) = j + 1 + r.length from by omega]
  exact this
theorem valueL_bd (l : List UInt8) : -(30 * 10 ^ l.length - 30) ≤ valueL l ∧ valueL l ≤ 30 * 10 ^ l.length - 30 := by
 have := fold_bd l 0 0 (by decide) (by decide)
 simpa [valueL] using this
inductive Kw | let_ | pair | fst | snd | if_ | add | sub | less | loop | new
 deriving DecidableEq, Repr
def Kw.bytes : Kw → List UInt8
 | .let_ => [108, 101, 116]
 | .pair => [112, 97, 105, 114]
 | .fst => [102, 115, 116]
 | .snd => [115, 110, 100]
 | .if_ => [105, 102]
 | .add => [97, 100, 100]
 | .sub => [115, 117, 98]
 | .less => [108, 101, 115, 115]
 | .loop => [108, 111, 111, 112]
 | .new => [110, 101, 119]
def kwOf (l : List UInt8) : Option Kw :=
 if l = Kw.let_.bytes then some .let_ else if l = Kw.pair.bytes then some .pair else if l = Kw.fst.bytes then some .fst else
 if l = Kw.snd.bytes then some .snd else if l = Kw.if_.bytes then some .if_ else if l = Kw.add.bytes then some .add else
 if l = Kw.sub.bytes then some .sub else if l = Kw.less.bytes then some .less else if l = Kw.loop.bytes then some .loop else
 if l = Kw.new.bytes then some .new else none
theorem kwOf_some {l : List UInt8} {k : Kw} (h : kwOf l = some k) : l = k.bytes := by
 unfold kwOf at h
 repeat' (split at h; · simp only [Option.some.injEq] at h; subst h; assumption)
 simp at h
theorem kwOf_bytes (k : Kw) : kwOf k.bytes = some k := by cases k <;> decide
inductive Cl | opn | cls | nam | num | reg | bad | kw (k : Kw)
 deriving DecidableEq, Repr
def Cl.bytes : Cl → List UInt8
 | .opn => [40]
 | .cls => [41]
 | .nam => [78, 65, 77, 69]
 | .num => [78, 85, 77, 66, 69, 82]
 | .reg => [82, 69, 71, 73, 79, 78]
 | .bad => [66, 65, 68]
 | .kw k => k.bytes
def wordCl (l : List UInt8) (n : Nat) : Cl := match kwOf l with
 | some k => .kw k
 | none => if n ≤ 8 then .nam else .bad
def tokenOf (l : List UInt8) : Nat × Cl :=
 if 0 < run 97 122 l then
  (run 97 122 l, wordCl (l.take (run 97 122 l)) (run 97 122 l))
 else if 0 < run 48 57 l then
  (run 48 57 l, if numeralB (l.take (run 48 57 l)) 4 then .num else .bad)
 else match l with
  | [] => (1, .bad)
  | c :: r =>
   if c = 35 then (run 48 57 r + 1, if numeralB (r.take (run 48 57 r)) 3 then .reg else .bad)
   else (1, if c = 40 then .opn else if c = 41 then .cls else .bad)
theorem tokenOf_pos (l : List UInt8) : 0 < (tokenOf l).1 := by
 unfold tokenOf
 split
 ·assumption
 ·split
  ·assumption
  ·split
   ·simp
   ·split <;> simp
theorem tokenOf_le (l : List UInt8) (h : l ≠ []) : (tokenOf l).1 ≤ l.length := by
 unfold tokenOf
 split
 ·exact run_le _ _ _
 ·split
  ·exact run_le _ _ _
  ·split
   ·exact absurd rfl h
   ·rename_i c r _ _
    split
    ·have := run_le 48 57 r; simp; omega
    ·simp
structure Tk where
 s : List UInt8
 at_ : Nat
 c : Cl
 deriving Repr
def blankB (c : UInt8) : Bool := c == 32 || c == 10
def toks : Nat → Nat → List UInt8 → List Tk
 | 0, _, _ => []
 | _ + 1, _, [] => []
 | f + 1, p, c :: r =>
  if blankB c then toks f (p + 1) r
  else ⟨(c :: r).take (tokenOf (c :: r)).1, p, (tokenOf (c :: r)).2⟩ :: toks f (p + (tokenOf (c :: r)).1) ((c :: r).drop (tokenOf (c :: r)).1)
theorem toks_fuel : ∀ (f g p : Nat) (l : List UInt8), l.length ≤ f → l.length ≤ g → toks f p l = toks g p l := by
 intro f
 induction f with
 | zero => intro g p l h1 h2; have : l = [] := List.length_eq_zero_iff.1 (by omega); subst this; cases g <;> rfl
 | succ f ih =>
  intro g p l h1 h2
  cases l with
  | nil => cases g <;> rfl
  | cons c r =>
   cases g with
   | zero => simp at h2
   | succ g =>
    simp only [List.length_cons] at h1 h2
    simp only [toks]
    have hp := tokenOf_pos (c :: r)
    split
    ·exact ih g _ r (by omega) (by omega)
    ·rw [ih g _ _ (by simp; omega) (by simp; omega)]
def tokens (l : List UInt8) : List Tk := toks l.length 0 l
theorem toks_blank (f p : Nat) (c : UInt8) (r : List UInt8) (h : blankB c = true) : toks (f + 1) p (c :: r) = toks f (p + 1) r := by simp [toks, h]
theorem toks_tok (f p : Nat) (c : UInt8) (r : List UInt8) (h : blankB c = false) : toks (f + 1) p (c :: r) = ⟨(c :: r).take (tokenOf (c :: r)).1, p, (tokenOf (c :: r)).2⟩ :: toks f (p + (tokenOf (c :: r)).1) ((c :: r).drop (tokenOf (c :: r)).1) := by simp [toks, h]
def mrg (c : Nat → Nat) (x y : Nat) : Nat → Nat := fun i => if c i = max (c x) (c y) then min (c x) (c y) else c i
theorem mrg_both (c : Nat → Nat) (x y : Nat) : mrg c x y x = mrg c x y y := by
 unfold mrg
 by_cases e : c x ≤ c y
 ·rw [Nat.max_eq_right e, Nat.min_eq_left e]
  by_cases e2 : c x = c y
  ·rw [if_pos e2, if_pos rfl]
  ·rw [if_neg e2, if_pos rfl]
 ·have e' : c y ≤ c x := by omega
  rw [Nat.max_eq_left e', Nat.min_eq_right e', if_pos rfl, if_neg (by omega)]
theorem mrg_keeps (c : Nat → Nat) (x y : Nat) {i j : Nat} (h : c i = c j) : mrg c x y i = mrg c x y j := by unfold mrg; rw [h]
def firstF (E : List Nat) : Nat → Nat → Nat
 | 0, p => p
 | f + 1, p => match E[p]? with
  | some x => if x < p then firstF E f x else p
  | none => p
def fst' (E : List Nat) (p : Nat) : Nat := firstF E (p + 1) p
theorem firstF_le (E : List Nat) : ∀ f p, firstF E f p ≤ p
 | 0, p => Nat.le_refl p
 | f + 1, p => by
  simp only [firstF]
  split
  ·split
   ·have := firstF_le E f; rename_i x _ h; have := this x; omega
   ·exact Nat.le_refl p
  ·exact Nat.le_refl p
theorem firstF_fuel (E : List Nat) : ∀ f g p, p < f → p < g → firstF E f p = firstF E g p
 | 0, _, _, h, _ => by omega
 | _ + 1, 0, _, _, h => by omega
 | f + 1, g + 1, p, h1, h2 => by
  simp only [firstF]
  split
  ·split
   ·rename_i x _ h; exact firstF_fuel E f g x (by omega) (by omega)
   ·rfl
  ·rfl
theorem fst_step (E : List Nat) (p : Nat) : fst' E p = match E[p]? with
  | some x => if x < p then fst' E x else p
  | none => p := by
 unfold fst'
 conv => lhs; unfold firstF
 split
 ·split
  ·rename_i x _ h; exact firstF_fuel E p (x + 1) x h (by omega)
  ·rfl
 ·rfl
theorem fst_le (E : List Nat) (p : Nat) : fst' E p ≤ p := firstF_le E _ p
theorem fst_end (E : List Nat) : ∀ p, ∀ x, E[fst' E p]? = some x → fst' E p ≤ x := by
 intro p
 induction p using Nat.strongRecOn with
 | _ p ih =>
  intro x hx
  rw [fst_step] at hx ⊢
  cases h : E[p]? with
  | none => rw [h] at hx; simp only at hx; rw [h] at hx; cases hx
  | some y =>
   rw [h] at hx
   simp only at hx ⊢
   by_cases hy : y < p
   ·rw [if_pos hy] at hx ⊢; exact ih y hy x hx
   ·rw [if_neg hy] at hx ⊢; rw [h] at hx; cases hx; omega
theorem fst_set (E : List Nat) (a b : Nat) (hab : a < b) (hb : b < E.length) (ha : fst' E a = a) (hbb : fst' E b = b) : ∀ p, fst' (E.set b a) p = if fst' E p = b then a else fst' E p := by
 intro p
 induction p using Nat.strongRecOn with
 | _ p ih =>
  rw [fst_step (E.set b a) p]
  by_cases hp : p = b
  ·subst hp
   rw [List.getElem?_set_self hb]
   simp only
   rw [if_pos hab, ih a hab, ha, hbb, if_neg (by omega), if_pos rfl]
  ·rw [List.getElem?_set_ne (fun e => hp e.symm), fst_step E p]
   cases h : E[p]? with
   | none => simp only; rw [if_neg hp]
   | some y =>
    simp only
    by_cases hy : y < p
    ·rw [if_pos hy, if_pos hy]; exact ih y hy
    ·rw [if_neg hy, if_neg hy, if_neg hp]
def joinF (E : List Nat) (x y : Nat) : List Nat := if fst' E x < fst' E y then E.set (fst' E y) (fst' E x) else E.set (fst' E x) (fst' E y)
theorem fst_idem (E : List Nat) (p : Nat) : fst' E (fst' E p) = fst' E p := by
 rw [fst_step E (fst' E p)]
 cases h : E[fst' E p]? with
 | none => rfl
 | some x => simp only; rw [if_neg (by have := fst_end E p x h; omega)]
theorem fst_join (E : List Nat) (x y : Nat) (hx : x < E.length) (hy : y < E.length) (p : Nat) : fst' (joinF E x y) p = mrg (fst' E) x y p := by
 have hxl := fst_le E x
 have hyl := fst_le E y
 unfold joinF mrg
 by_cases h : fst' E x < fst' E y
 ·rw [if_pos h, fst_set E _ _ h (by omega) (fst_idem E x) (fst_idem E y), Nat.max_eq_right (by omega), Nat.min_eq_left (by omega)]
 ·rw [if_neg h]
  by_cases e : fst' E x = fst' E y
  ·rw [← e, Nat.max_self, Nat.min_self]
   have hs : ∀ q, fst' (E.set (fst' E x) (fst' E x)) q = fst' E q := by
    intro q
    induction q using Nat.strongRecOn with
    | _ q ih =>
     rw [fst_step (E.set _ _) q, fst_step E q]
     by_cases hq : q = fst' E x
     ·rw [hq, List.getElem?_set_self (by omega)]
      simp only
      rw [if_neg (by omega)]
      cases h2 : E[fst' E x]? with
      | none => rfl
      | some z => simp only; rw [if_neg (by have := fst_end E x z h2; omega)]
     ·rw [List.getElem?_set_ne (fun e => hq e.symm)]
      cases h2 : E[q]? with
      | none => rfl
      | some z =>
       simp only
       by_cases hz : z < q
       ·rw [if_pos hz, if_pos hz]; exact ih z hz
       ·rw [if_neg hz, if_neg hz]
   rw [hs]
   split
   ·rename_i e2; exact e2
   ·rfl
  ·rw [fst_set E _ _ (by omega) (by omega) (fst_idem E y) (fst_idem E x), Nat.max_eq_left (by omega), Nat.min_eq_right (by omega)]
open Go.RowKit
theorem drop_cons (s : ByteArray) (k : Nat) (h : k < s.size) : s.data.toList.drop k = s[k] :: s.data.toList.drop (k + 1) := by
 rw [List.drop_eq_getElem_cons (by simpa using h)]; rfl
theorem drop_end (s : ByteArray) (k : Nat) (h : s.size ≤ k) : s.data.toList.drop k = [] := by
 rw [List.drop_eq_nil_iff]; simpa using h
theorem ret_int {k : IntKind} {a b : Int} (h : a = b) : Ending.returned (.int k a) = .returned (.int k b) := by rw [h]
theorem byte_eq (a b : UInt8) : ((a.toNat : Int) == (b.toNat : Int)) = (a == b) := by
 rw [Bool.eq_iff_iff]
 simp only [beq_iff_eq]
 constructor
 ·intro h; apply UInt8.toNat_inj.1; omega
 ·intro h; rw [h]
theorem ret_bool {a b : Bool} (h : a = b) : Ending.returned (.bool a) = .returned (.bool b) := by rw [h]
theorem pow5 (k : Nat) (h : k ≤ 5) : (10 : Int) ^ k ≤ 100000 := by
 match k, h with
 | 0, _ => decide
 | 1, _ => decide
 | 2, _ => decide
 | 3, _ => decide
 | 4, _ => decide
 | 5, _ => decide
def bs (l : List UInt8) : ByteArray := ⟨l.toArray⟩
theorem bs_eq {s : ByteArray} {l : List UInt8} (h : s.data.toList = l) : s = bs l := by subst h; cases s; rfl
theorem ext_of (s : ByteArray) (a n : Nat) : (s.extract a (a + n)).data.toList = (s.data.toList.drop a).take n := by
 rw [Lib.extract_data, show a + n - a = n from by omega]
theorem size_list (s : ByteArray) : s.data.toList.length = s.size := by simp
theorem toks_step_blank (s : ByteArray) (k : Nat) (hk : k < s.size) (h : blankB s[k] = true) : toks (s.size - k) k (s.data.toList.drop k) = toks (s.size - (k + 1)) (k + 1) (s.data.toList.drop (k + 1)) := by
 rw [drop_cons s k hk, show s.size - k = (s.size - (k + 1)) + 1 from by omega, toks_blank _ _ _ _ h]
def tkAt (s : ByteArray) (k : Nat) : Tk := ⟨(s.data.toList.drop k).take (tokenOf (s.data.toList.drop k)).1, k, (tokenOf (s.data.toList.drop k)).2⟩
theorem toks_step_tok (s : ByteArray) (k : Nat) (hk : k < s.size) (h : blankB s[k] = false) :
  toks (s.size - k) k (s.data.toList.drop k) = tkAt s k :: toks (s.size - (k + (tokenOf (s.data.toList.drop k)).1)) (k + (tokenOf (s.data.toList.drop k)).1) (s.data.toList.drop (k + (tokenOf (s.data.toList.drop k)).1)) := by
 have hp := tokenOf_pos (s.data.toList.drop k)
 have e : toks (s.size - k) k (s.data.toList.drop k) = tkAt s k :: toks (s.size - (k + 1)) (k + (tokenOf (s.data.toList.drop k)).1) ((s.data.toList.drop k).drop (tokenOf (s.data.toList.drop k)).1) := by
  unfold tkAt
  rw [drop_cons s k hk]
  conv => lhs; rw [show s.size - k = (s.size - (k + 1)) + 1 from by omega]
  rw [toks_tok _ _ _ _ h]
 rw [e, List.drop_drop]
 congr 1
 apply toks_fuel
 ·simp; omega
 ·simp
theorem grown_of_below {w w' : World} (h : Below w.heap.size w w') (row : Option Nat) : w.grownBy w' row := ⟨h.os, h.tape, h.output, h.size, fun k hk _ => h.block k hk⟩
theorem owns_below {w w' : World} {base : Nat} {e : TypeId} {size : Nat} {v : Value} {n : Nat} {xs : List Value} (h : w.ownsRow base e size v n xs) (hb : Below w.heap.size w w') : w'.ownsRow base e size v n xs := by
 refine h.kept (grown_of_below hb none) ?_
 cases v.ownBlock <;> simp
theorem bs_size (l : List UInt8) : (bs l).size = l.length := by show l.toArray.size = l.length; simp
theorem tkAt_len (s : ByteArray) (k : Nat) (hk : k < s.size) : (tkAt s k).s.length = (tokenOf (s.data.toList.drop k)).1 := by
 have := tokenOf_le (s.data.toList.drop k) (by rw [drop_cons s k hk]; simp)
 unfold tkAt
 simp only [List.length_take]; omega
inductive Wt | e | word | close | name | region
 deriving DecidableEq, Repr
def Wt.bytes : Wt → List UInt8
 | .e => [101]
 | .word => [119, 111, 114, 100]
 | .close => [41]
 | .name => [78, 65, 77, 69]
 | .region => [82, 69, 71, 73, 79, 78]
def wantsK (k : Kw) (placed : Bool) : List Wt :=
 match k, placed with
 | .let_, _ => [.name, .e, .e, .close]
 | .loop, _ => [.e, .name, .e, .e, .close]
 | .pair, true => [.region, .e, .e, .close]
 | .new, true => [.region, .e, .close]
 | .pair, false => [.e, .e, .close]
 | .add, _ => [.e, .e, .close]
 | .sub, _ => [.e, .e, .close]
 | .less, _ => [.e, .e, .close]
 | .fst, _ => [.e, .close]
 | .snd, _ => [.e, .close]
 | .if_, _ => [.e, .e, .e, .close]
 | .new, false => []
def wantsC (c : Cl) (placed : Bool) : List Wt := match c with
 | .kw k => wantsK k placed
 | _ => []
def formRun (placed : Bool) (len : Nat) : List Tk → List Wt → Option Nat
 | [], [] => none
 | [], _ :: _ => some len
 | t :: _, [] => some t.at_
 | t :: ts, .e :: p => match t.c with
  | .opn => formRun placed len ts (.word :: p)
  | .num => formRun placed len ts p
  | .nam => formRun placed len ts p
  | _ => some t.at_
 | t :: ts, .word :: p => if wantsC t.c placed = [] then some t.at_ else formRun placed len ts (wantsC t.c placed ++ p)
 | t :: ts, .close :: p => if t.c = .cls then formRun placed len ts p else some t.at_
 | t :: ts, .name :: p => if t.c = .nam then formRun placed len ts p else some t.at_
 | t :: ts, .region :: p => if t.c = .reg then formRun placed len ts p else some t.at_
theorem toks_len : ∀ (f p : Nat) (l : List UInt8), (toks f p l).length ≤ l.length := by
 intro f
 induction f with
 | zero => intro p l; simp [toks]
 | succ f ih =>
  intro p l
  cases l with
  | nil => simp [toks]
  | cons c r =>
   simp only [toks]
   split
   ·have := ih (p + 1) r; simp; omega
   ·have hp := tokenOf_pos (c :: r)
    have := ih (p + (tokenOf (c :: r)).1) ((c :: r).drop (tokenOf (c :: r)).1)
    simp only [List.length_drop, List.length_cons] at this
    simp only [List.length_cons]; omega
theorem bs_beq (l m : List UInt8) : ((bs l).toList == m) = (l == m) := by rw [Lib.toList_data]; rfl
theorem alloc_cell_at (w : World) (l : List Value) (e : TypeId) (j : Nat) : (w.alloc (.cells l.toArray e)).cell? (Addr.add ⟨w.heap.size, 0, none⟩ j) = l[j]? := by
 rcases j with _ | j <;> simp [Addr.add]
inductive PT where
 | num (p : Nat) (s : List UInt8)
 | name (p : Nat) (s : List UInt8)
 | node (p : Nat) (k : Kw) (nm rg : List UInt8) (kids : List PT)
mutual
def PT.cnt : PT → Nat
 | .num _ _ => 1
 | .name _ _ => 1
 | .node _ _ _ _ kids => 1 + cntL kids
def cntL : List PT → Nat
 | [] => 0
 | t :: r => t.cnt + cntL r
end
mutual
def PT.prs : PT → Nat
 | .num _ _ => 0
 | .name _ _ => 0
 | .node _ k _ _ kids => (if k = .pair then 1 else 0) + prsL kids
def prsL : List PT → Nat
 | [] => 0
 | t :: r => t.prs + prsL r
end
mutual
inductive PE (placed : Bool) : List Tk → PT → List Tk → Prop
 | num {t : Tk} {r : List Tk} : t.c = .num → PE placed (t :: r) (.num t.at_ t.s) r
 | name {t : Tk} {r : List Tk} : t.c = .nam → PE placed (t :: r) (.name t.at_ t.s) r
 | node {t u : Tk} {k : Kw} {r r' : List Tk} {nm rg : List UInt8} {kids : List PT} : t.c = .opn → u.c = .kw k → wantsK k placed ≠ [] →
   PW placed (wantsK k placed) r nm rg kids r' → PE placed (t :: u :: r) (.node t.at_ k nm rg kids) r'
inductive PW (placed : Bool) : List Wt → List Tk → List UInt8 → List UInt8 → List PT → List Tk → Prop
 | nil {r : List Tk} : PW placed [] r [] [] [] r
 | close {t : Tk} {ws : List Wt} {r r' : List Tk} {nm rg : List UInt8} {kids : List PT} : t.c = .cls → PW placed ws r nm rg kids r' → PW placed (.close :: ws) (t :: r) nm rg kids r'
 | name {t : Tk} {ws : List Wt} {r r' : List Tk} {nm rg : List UInt8} {kids : List PT} : t.c = .nam → PW placed ws r nm rg kids r' → PW placed (.name :: ws) (t :: r) t.s rg kids r'
 | region {t : Tk} {ws : List Wt} {r r' : List Tk} {nm rg : List UInt8} {kids : List PT} : t.c = .reg → PW placed ws r nm rg kids r' → PW placed (.region :: ws) (t :: r) nm t.s kids r'
 | e {e : PT} {ws : List Wt} {l r r' : List Tk} {nm rg : List UInt8} {kids : List PT} : PE placed l e r → PW placed ws r nm rg kids r' → PW placed (.e :: ws) l nm rg (e :: kids) r'
end
mutual
theorem PE.sound {placed : Bool} {len : Nat} : ∀ {l : List Tk} {e : PT} {r : List Tk}, PE placed l e r → ∀ p, formRun placed len l (.e :: p) = formRun placed len r p
 | _, _, _, .num h, p => by simp [formRun, h]
 | _, _, _, .name h, p => by simp [formRun, h]
 | _, _, _, .node (k := k) h1 h2 h3 h4, p => by
  have := PW.sound (len := len) h4 p
  simp only [formRun, h1, h2, wantsC]
  rw [if_neg h3]; exact this
theorem PW.sound {placed : Bool} {len : Nat} : ∀ {ws : List Wt} {l : List Tk} {nm rg : List UInt8} {kids : List PT} {r : List Tk}, PW placed ws l nm rg kids r → ∀ p, formRun placed len l (ws ++ p) = formRun placed len r p
 | _, _, _, _, _, _, .nil, p => rfl
 | _, _, _, _, _, _, .close h h1, p => by have := PW.sound (len := len) h1 p; simp only [List.cons_append, formRun, if_pos h]; exact this
 | _, _, _, _, _, _, .name h h1, p => by have := PW.sound (len := len) h1 p; simp only [List.cons_append, formRun, if_pos h]; exact this
 | _, _, _, _, _, _, .region h h1, p => by have := PW.sound (len := len) h1 p; simp only [List.cons_append, formRun, if_pos h]; exact this
 | _, _, _, _, _, _, .e (ws := ws) h h1, p => by have := PE.sound (len := len) h (ws ++ p); rw [List.cons_append, this]; exact PW.sound h1 p
end
mutual
theorem PE.len {placed : Bool} : ∀ {l : List Tk} {e : PT} {r : List Tk}, PE placed l e r → r.length < l.length
 | _, _, _, .num _ => by simp
 | _, _, _, .name _ => by simp
 | _, _, _, .node _ _ _ h4 => by have := PW.len h4; simp; omega
theorem PW.len {placed : Bool} : ∀ {ws : List Wt} {l : List Tk} {nm rg : List UInt8} {kids : List PT} {r : List Tk}, PW placed ws l nm rg kids r → r.length ≤ l.length
 | _, _, _, _, _, _, .nil => Nat.le_refl _
 | _, _, _, _, _, _, .close _ h1 => by have := PW.len h1; simp; omega
 | _, _, _, _, _, _, .name _ h1 => by have := PW.len h1; simp; omega
 | _, _, _, _, _, _, .region _ h1 => by have := PW.len h1; simp; omega
 | _, _, _, _, _, _, .e h h1 => by have := PE.len h; have := PW.len h1; omega
end
def cntE (l : List Wt) : Nat := (l.filter (· = .e)).length
mutual
theorem PE.used {placed : Bool} : ∀ {l : List Tk} {e : PT} {r : List Tk}, PE placed l e r → e.cnt + r.length ≤ l.length ∧ e.prs + r.length + 1 ≤ l.length
 | _, _, _, .num _ => by simp [PT.cnt, PT.prs]; omega
 | _, _, _, .name _ => by simp [PT.cnt, PT.prs]; omega
 | _, _, _, .node (k := k) _ _ _ h4 => by have := PW.used h4; simp [PT.cnt, PT.prs]; split <;> omega
theorem PW.used {placed : Bool} : ∀ {ws : List Wt} {l : List Tk} {nm rg : List UInt8} {kids : List PT} {r : List Tk}, PW placed ws l nm rg kids r → cntL kids + r.length ≤ l.length ∧ prsL kids + r.length ≤ l.length
 | _, _, _, _, _, _, .nil => by simp [cntL, prsL]
 | _, _, _, _, _, _, .close _ h1 => by have := PW.used h1; simp; omega
 | _, _, _, _, _, _, .name _ h1 => by have := PW.used h1; simp; omega
 | _, _, _, _, _, _, .region _ h1 => by have := PW.used h1; simp; omega
 | _, _, _, _, _, _, .e h h1 => by have := PE.used h; have := PW.used h1; simp only [cntL, prsL]; omega
end
theorem PE.suffix {placed : Bool} {l : List Tk} {e : PT} {r : List Tk} (h : PE placed l e r) : ∃ t r', l = t :: r' ∧ (t.c = .num ∨ t.c = .nam ∨ t.c = .opn) := by
 cases h with
 | num h => exact ⟨_, _, rfl, Or.inl h⟩
 | name h => exact ⟨_, _, rfl, Or.inr (Or.inl h)⟩
 | node h _ _ _ => exact ⟨_, _, rfl, Or.inr (Or.inr h)⟩
mutual
theorem PE.drop {placed : Bool} : ∀ {l : List Tk} {e : PT} {r : List Tk}, PE placed l e r → ∃ n, r = l.drop n ∧ n ≤ l.length
 | _, _, _, .num _ => ⟨1, by simp, by simp⟩
 | _, _, _, .name _ => ⟨1, by simp, by simp⟩
 | _, _, _, .node _ _ _ h4 => by obtain ⟨n, h, hn⟩ := PW.drop h4; exact ⟨n + 2, by simp [h], by simp; omega⟩
theorem PW.drop {placed : Bool} : ∀ {ws : List Wt} {l : List Tk} {nm rg : List UInt8} {kids : List PT} {r : List Tk}, PW placed ws l nm rg kids r → ∃ n, r = l.drop n ∧ n ≤ l.length
 | _, _, _, _, _, _, .nil => ⟨0, by simp, by simp⟩
 | _, _, _, _, _, _, .close _ h1 => by obtain ⟨n, h, hn⟩ := PW.drop h1; exact ⟨n + 1, by simp [h], by simp; omega⟩
 | _, _, _, _, _, _, .name _ h1 => by obtain ⟨n, h, hn⟩ := PW.drop h1; exact ⟨n + 1, by simp [h], by simp; omega⟩
 | _, _, _, _, _, _, .region _ h1 => by obtain ⟨n, h, hn⟩ := PW.drop h1; exact ⟨n + 1, by simp [h], by simp; omega⟩
 | _, _, _, _, _, _, .e h h1 => by
  obtain ⟨n, hr, hn⟩ := PE.drop h
  obtain ⟨m, hr', hm⟩ := PW.drop h1
  refine ⟨n + m, by rw [hr', hr, List.drop_drop], ?_⟩
  rw [hr] at hm; simp at hm; omega
end
structure TN where
 kind : Nat
 at_ : Nat
 beh : Nat
 word : List UInt8
 num : Int
def kindN : Cl → Nat
 | .bad => 1
 | .opn => 2
 | .cls => 3
 | .nam => 4
 | .num => 5
 | .reg => 6
 | .kw .let_ => 7
 | .kw .pair => 8
 | .kw .fst => 9
 | .kw .snd => 10
 | .kw .if_ => 11
 | .kw .add => 12
 | .kw .sub => 13
 | .kw .less => 14
 | .kw .loop => 15
 | .kw .new => 16
def wordN (t : Tk) : List UInt8 := match t.c with
 | .nam => t.s
 | .kw _ => t.s
 | _ => []
def numN (t : Tk) : Int := match t.c with
 | .num => valueL t.s
 | .reg => valueL t.s
 | _ => 0
def tnOf (t : Tk) : TN := ⟨kindN t.c, t.at_, t.at_ + t.s.length, wordN t, numN t⟩
def tksAt (s : List UInt8) (p : Nat) : List Tk := toks (s.length - p) p (s.drop p)
def tk1 (len : Nat) (l : List Tk) : TN := match l with
 | [] => ⟨0, len, len, [], 0⟩
 | t :: _ => tnOf t
structure NR where
 form : Nat
 at_ : Nat
 beh : Nat
 num : Int
 word : List UInt8
 region : Int
 source : Int
 p0 : Int
 p1 : Int
 p2 : Int
structure PS where
 l : List Tk
 fl : Option Nat
 scope : List (List UInt8 × Int)
 nodes : List NR
 opened : List Int
def PS.fail (at_ : Nat) (st : PS) : PS := match st.fl with
 | some _ => st
 | none => { st with fl := some at_, l := [] }
def PS.tail (st : PS) : PS := { st with l := st.l.tail }
def PS.expect (len kind : Nat) (st : PS) : PS := if (tk1 len st.l).kind ≠ kind then st.tail.fail (tk1 len st.l).at_ else st.tail
def PS.add (n : NR) (st : PS) : PS := { st with nodes := st.nodes ++ [n] }
def findS (scope : List (List UInt8 × Int)) (w : List UInt8) : Int := match scope.reverse.find? (fun x => x.1 == w) with
 | some x => x.2
 | none => -1
def formN : Nat → Nat
 | 7 => 3
 | 8 => 4
 | 9 => 5
 | 10 => 6
 | 11 => 7
 | 12 => 8
 | 13 => 9
 | 14 => 10
 | 15 => 11
 | 16 => 12
 | _ => 0
def pBody (pE : PS → Int × PS) (word : List UInt8) (src : Int) (st : PS) : Int × PS :=
 let x := pE { st with scope := st.scope ++ [(word, src)] }
 (x.1, { x.2 with scope := x.2.scope.dropLast })
def pLet (len : Nat) (pE : PS → Int × PS) (n : NR) (st : PS) : NR × PS :=
 let nm := tk1 len st.l
 let x := pE (st.expect len 4)
 let y := pBody pE nm.word x.1 x.2
 ({ n with word := nm.word, p0 := x.1, p1 := y.1, p2 := -1 }, y.2)
def pLoop (len : Nat) (pE : PS → Int × PS) (n : NR) (st : PS) : NR × PS :=
 let t := pE st
 let nm := tk1 len t.2.l
 let x := pE (t.2.expect len 4)
 let y := pBody pE nm.word x.1 x.2
 ({ n with word := nm.word, p0 := t.1, p1 := x.1, p2 := y.1 }, y.2)
def pRegion (len : Nat) (n : NR) (st : PS) : NR × PS := ({ n with region := (tk1 len st.l).num }, st.expect len 6)
def pRow1 (pE : PS → Int × PS) (n : NR) (st : PS) : NR × PS :=
 let x := pE st
 ({ n with p0 := x.1 }, x.2)
def pRow2 (pE : PS → Int × PS) (n : NR) (st : PS) : NR × PS :=
 let x := pRow1 pE n st
 let y := pE x.2
 ({ x.1 with p1 := y.1 }, y.2)
def pRow3 (pE : PS → Int × PS) (n : NR) (st : PS) : NR × PS :=
 let x := pRow2 pE n st
 let y := pE x.2
 ({ x.1 with p2 := y.1 }, y.2)
def pFill (placed : Bool) (len : Nat) (pE : PS → Int × PS) (n : NR) (st : PS) : NR × PS :=
 if n.form = 3 then pLet len pE n st
 else if n.form = 11 then pLoop len pE n st
 else if n.form = 4 then (if placed then pRow2 pE (pRegion len n st).1 (pRegion len n st).2 else pRow2 pE n st)
 else if n.form = 12 then pRow1 pE (pRegion len n st).1 (pRegion len n st).2
 else if n.form = 5 ∨ n.form = 6 then pRow1 pE n st
 else if n.form = 7 then pRow3 pE n st
 else pRow2 pE n st
def pBracket (placed : Bool) (len : Nat) (pE : PS → Int × PS) (n : NR) (st : PS) : Int × PS :=
 let w := tk1 len st.l
 let f := formN w.kind
 if f = 0 ∨ (f = 12 ∧ placed = false) then (-1, st.tail.fail w.at_)
 else
  let x := pFill placed len pE { n with form := f } st.tail
  let e := tk1 len x.2.l
  (((x.2.expect len 3).nodes.length : Int), (x.2.expect len 3).add { x.1 with beh := e.beh })
def nodeT (t : TN) : NR := ⟨0, t.at_, t.beh, 0, [], 0, -1, -1, -1, -1⟩
def pAny (len : Nat) (pB : NR → PS → Int × PS) (st : PS) : Int × PS :=
 let t := tk1 len st.l
 if t.kind = 5 then ((st.nodes.length : Int), st.tail.add { nodeT t with form := 1, num := t.num })
 else if t.kind = 4 then ((st.nodes.length : Int), st.tail.add { nodeT t with form := 2, word := t.word, source := findS st.scope t.word })
 else if t.kind = 2 then pB (nodeT t) st.tail
 else (-1, st.tail.fail t.at_)
def pSeat (f : PS → Int × PS) (st : PS) : Int × PS :=
 let x := f { st with opened := st.opened ++ [-1] }
 (x.1, { x.2 with opened := x.2.opened.set st.opened.length x.1 })
def pExpr (placed : Bool) (len : Nat) : Nat → PS → Int × PS
 | 0 => pSeat (pAny len fun _ st => (-1, st))
 | m + 1 => pSeat (pAny len (pBracket placed len (pExpr placed len m)))
theorem kindN_num (c : Cl) : kindN c = 5 ↔ c = .num := by
 cases c with
 | kw k => cases k <;> decide
 | _ => decide
theorem kindN_nam (c : Cl) : kindN c = 4 ↔ c = .nam := by
 cases c with
 | kw k => cases k <;> decide
 | _ => decide
theorem kindN_opn (c : Cl) : kindN c = 2 ↔ c = .opn := by
 cases c with
 | kw k => cases k <;> decide
 | _ => decide
theorem kindN_cls (c : Cl) : kindN c = 3 ↔ c = .cls := by
 cases c with
 | kw k => cases k <;> decide
 | _ => decide
theorem kindN_reg (c : Cl) : kindN c = 6 ↔ c = .reg := by
 cases c with
 | kw k => cases k <;> decide
 | _ => decide
def PS.stuck (q : Nat) (st : PS) : Prop := st.fl = some q ∧ st.l = []
theorem stuck_fail {q a : Nat} {st : PS} (h : st.stuck q) : (st.fail a).stuck q := by
 obtain ⟨h1, h2⟩ := h
 unfold PS.fail; rw [h1]; exact ⟨h1, h2⟩
theorem stuck_tail {q : Nat} {st : PS} (h : st.stuck q) : st.tail.stuck q := ⟨h.1, by simp [PS.tail, h.2]⟩
theorem stuck_expect {q len k : Nat} {st : PS} (h : st.stuck q) : (st.expect len k).stuck q := by
 unfold PS.expect; split
 ·exact stuck_fail (stuck_tail h)
 ·exact stuck_tail h
theorem fail_stuck {a : Nat} {st : PS} (h : st.fl = none) : (st.fail a).stuck a := by
 unfold PS.fail; rw [h]; exact ⟨rfl, rfl⟩
def Keeps (pE : PS → Int × PS) : Prop := ∀ (q : Nat) (st : PS), st.stuck q → (pE st).2.stuck q
theorem keeps_any (len : Nat) (pB : NR → PS → Int × PS) : Keeps (pAny len pB) := by
 intro q st h
 unfold pAny
 simp only [h.2, tk1]
 exact stuck_fail (stuck_tail h)
theorem keeps_seat {f : PS → Int × PS} (hf : Keeps f) : Keeps (pSeat f) := by
 intro q st h
 exact hf q { st with opened := st.opened ++ [-1] } h
theorem keeps_expr (placed : Bool) (len n : Nat) : Keeps (pExpr placed len n) := by
 cases n with
 | zero => exact keeps_seat (keeps_any _ _)
 | succ m => exact keeps_seat (keeps_any _ _)
theorem keeps_body {pE : PS → Int × PS} (h : Keeps pE) (w : List UInt8) (src : Int) {q : Nat} {st : PS} (hs : st.stuck q) : (pBody pE w src st).2.stuck q := h q { st with scope := st.scope ++ [(w, src)] } hs
theorem tail_len (st : PS) : st.tail.l.length ≤ st.l.length := by simp [PS.tail]
def bA (s : ByteArray) (a : Nat) : UInt8 := if h : a < s.size then s[a] else 0
theorem bA_in (s : ByteArray) (a : Nat) (h : a < s.size) : bA s a = s[a] := by unfold bA; rw [dif_pos h]
theorem bA_out (s : ByteArray) (a : Nat) (h : s.size ≤ a) : bA s a = 0 := by unfold bA; rw [dif_neg (by omega)]
set_option maxHeartbeats 400000 in
theorem byteAt_any (s : ByteArray) (a : Nat) (w : World) (ha : a ≤ 10000) :
  Calls Tryz.prog 192 #[.string s, .int .i64 a] w fun e w' => e = .returned (.int .u8 ((bA s a).toNat : Int)) ∧ w' = w := by
 by_cases h : a < s.size
 ·rw [bA_in s a h]
  go_enter Tryz.func192, Tryz.ntmps192
  go_wp2
  go_ret
  exact ⟨rfl, rfl⟩
 ·rw [bA_out s a (by omega)]
  go_enter Tryz.func192, Tryz.ntmps192
  go_wp2
  go_ret
  exact ⟨rfl, rfl⟩
set_option maxHeartbeats 400000 in
theorem isLetter_any (c : UInt8) (w : World) :
  Calls Tryz.prog 193 #[.int .u8 (c.toNat : Int)] w fun e w' => e = .returned (.bool (inB 97 122 c)) ∧ w' = w := by
 have hc : c.toNat < 256 := c.toNat_lt
 unfold inB
 go_enter Tryz.func193, Tryz.ntmps193
 go_wp2
 all_goals go_ret
 ·refine ⟨ret_bool ?_, rfl⟩
  have h1 : (97 : Int) ≤ (c.toNat : Int) := by assumption
  simp [h1]
 ·refine ⟨ret_bool ?_, rfl⟩
  have h1 : ¬ (97 : Int) ≤ (c.toNat : Int) := by omega
  simp [h1]
set_option maxHeartbeats 400000 in
theorem isDigit_any (c : UInt8) (w : World) :
  Calls Tryz.prog 195 #[.int .u8 (c.toNat : Int)] w fun e w' => e = .returned (.bool (inB 48 57 c)) ∧ w' = w := by
 have hc : c.toNat < 256 := c.toNat_lt
 unfold inB
 go_enter Tryz.func195, Tryz.ntmps195
 go_wp2
 all_goals go_ret
 ·refine ⟨ret_bool ?_, rfl⟩
  have h1 : (48 : Int) ≤ (c.toNat : Int) := by assumption
  simp [h1]
 ·refine ⟨ret_bool ?_, rfl⟩
  have h1 : ¬ (48 : Int) ≤ (c.toNat : Int) := by omega
  simp [h1]
set_option maxHeartbeats 400000 in
theorem isBlank_any (c : UInt8) (w : World) :
  Calls Tryz.prog 202 #[.int .u8 (c.toNat : Int)] w fun e w' => e = .returned (.bool (blankB c)) ∧ w' = w := by
 have e1 : ((c.toNat : Int) == 32) = (c == 32) := byte_eq c 32
 have e2 : ((c.toNat : Int) == 10) = (c == 10) := byte_eq c 10
 unfold blankB
 rw [← e1, ← e2]
 clear e1 e2
 go_enter Tryz.func202, Tryz.ntmps202
 go_wp2
 all_goals go_ret
 all_goals
  refine ⟨ret_bool ?_, rfl⟩
  simp_all
def nbl : List UInt8 → Nat
 | [] => 0
 | c :: r => if blankB c then nbl r + 1 else 0
theorem nbl_le (l : List UInt8) : nbl l ≤ l.length := by
 induction l with
 | nil => simp [nbl]
 | cons c r ih => simp only [nbl]; split <;> simp <;> omega
set_option maxRecDepth 100000 in
set_option maxHeartbeats 1000000 in
theorem skipBlanks_any (s : ByteArray) (a : Nat) (w : World) (hs : s.size ≤ 9000) (ha : a ≤ s.size) :
  Calls Tryz.prog 191 #[.string s, .int .i64 a] w fun e w' => e = .returned (.int .i64 ((a + nbl (s.data.toList.drop a) : Nat) : Int)) ∧ w' = w := by
 have hby := fun k (h : k ≤ 10000) w => byteAt_any s k w h
 go_enter Tryz.func191, Tryz.ntmps191
 go_wp2
 go_loop [5] (fun i => ∃ k : Nat, k ≤ s.size ∧ i = .int .i64 k ∧ a + nbl (s.data.toList.drop a) = k + nbl (s.data.toList.drop k)) (fun i => s.size - (intOf i).toNat)
 case atStart => exact ⟨a, ha, rfl, rfl⟩
 case round =>
  obtain ⟨k, hk, rfl, hr⟩ := hrel
  have HR : Hid _ := hr
  clear hr
  by_cases hlt : k < s.size
  ·by_cases hb : blankB s[k] = true
   ·have hn : nbl (s.data.toList.drop k) = nbl (s.data.toList.drop (k + 1)) + 1 := by rw [drop_cons s k hlt]; simp [nbl, hb]
    have HN : Hid _ := hn
    have hbl := fun w => isBlank_any s[k] w
    rw [hb] at hbl
    have hbk := hby k (by omega)
    rw [bA_in s k hlt] at hbk
    clear hn hb
    go_wp2_with (first
     | (go_at_call 192; refine (hbk _).mono ?_; rintro e w' ⟨rfl, rfl⟩)
     | (go_at_call 202; refine (hbl _).mono ?_; rintro e w' ⟨rfl, rfl⟩))
    go_round
    case rel => exact ⟨k + 1, by omega, by go_num, by rw [HR.out, HN.out]; omega⟩
    case measure => simp [intOf]; omega
   ·have hb0 : blankB s[k] = false := by simpa using hb
    have hn : nbl (s.data.toList.drop k) = 0 := by rw [drop_cons s k hlt]; simp [nbl, hb0]
    have HN : Hid _ := hn
    have hbl := fun w => isBlank_any s[k] w
    rw [hb0] at hbl
    have hbk := hby k (by omega)
    rw [bA_in s k hlt] at hbk
    clear hn hb hb0
    go_wp2_with (first
     | (go_at_call 192; refine (hbk _).mono ?_; rintro e w' ⟨rfl, rfl⟩)
     | (go_at_call 202; refine (hbl _).mono ?_; rintro e w' ⟨rfl, rfl⟩))
    go_ret
    exact ⟨ret_int (by have h1 := HR.out; have h2 := HN.out; omega), rfl⟩
  ·have hn : nbl (s.data.toList.drop k) = 0 := by rw [drop_end s k (by omega)]; rfl
   have HN : Hid _ := hn
   clear hn
   go_wp2
   go_ret
   exact ⟨ret_int (by have h1 := HR.out; have h2 := HN.out; omega), rfl⟩
set_option maxRecDepth 100000 in
set_option maxHeartbeats 1000000 in
theorem valueOf_any (s : ByteArray) (a n b : Nat) (w : World) (hs : s.size ≤ 9000) (hab : b = a + n) (ha : b ≤ s.size) (hn : n ≤ 5) (hd : ∀ c ∈ (s.data.toList.drop a).take n, c ≠ 35) :
  Calls Tryz.prog 205 #[.string s, .int .i64 a, .int .i64 b] w fun e w' => e = .returned (.int .i64 (valueL ((s.data.toList.drop a).take n))) ∧ w' = w := by
 have hby := fun k (h : k ≤ 10000) w => byteAt_any s k w h
 have HD : Hid _ := hd
 clear hd
 go_enter Tryz.func205, Tryz.ntmps205
 go_wp2
 go_loop [7, 8] (fun v i => ∃ k j : Nat, k ≤ n ∧ j = a + k ∧ i = .int .i64 j ∧ v = .int .i64 (valueL ((s.data.toList.drop a).take k))) (fun _ i => b - (intOf i).toNat)
 case atStart => exact ⟨0, a, by omega, rfl, rfl, rfl⟩
 case round =>
  obtain ⟨k, j, hk, hj, rfl, rfl⟩ := hrel
  have hb := valueL_bd ((s.data.toList.drop a).take k)
  have hp := pow5 ((s.data.toList.drop a).take k).length (by simp; omega)
  obtain ⟨m, hm⟩ : ∃ m, m = valueL ((s.data.toList.drop a).take k) := ⟨_, rfl⟩
  rw [← hm] at hb
  obtain ⟨hb1, hb2⟩ : -3000000 ≤ m ∧ m ≤ 3000000 := by omega
  clear hp hb
  by_cases hlt : k < n
  ·have hin : j < s.size := by omega
   have hsn : valueL ((s.data.toList.drop a).take (k + 1)) = 10 * m + (s[j].toNat : Int) - 48 := by
    have e : (s.data.toList.drop a).take (k + 1) = (s.data.toList.drop a).take k ++ [s[j]] := by
     subst hj; rw [List.take_succ_eq_append_getElem (by simp; omega), List.getElem_drop]; rfl
    have hne : s[j] ≠ 35 := by
     apply HD.out
     have : s[j] ∈ (s.data.toList.drop a).take (k + 1) := by rw [e]; simp
     rw [show (s.data.toList.drop a).take (k + 1) = ((s.data.toList.drop a).take n).take (k + 1) from by rw [List.take_take, Nat.min_eq_left (by omega)]] at this
     exact List.mem_of_mem_take this
    rw [e, valueL_snoc, if_neg hne, hm]
   have HS : Hid _ := hsn
   have hcb : s[j].toNat < 256 := s[j].toNat_lt
   have HC : Hid _ := hcb
   have hbk := hby j (by omega)
   rw [bA_in s j hin] at hbk
   clear hsn hcb
   rw [← hm]
   have HM : Hid _ := hm
   clear hm
   have HJ : Hid (j = a + k) := hj
   have hjb : j < b := by omega
   have HAB : Hid (b = a + n) := hab
   clear hj hab
   go_wp2_with fail
   refine (hbk _).mono ?_
   rintro e w' ⟨rfl, rfl⟩
   go_wp2
   go_round
   case rel =>
    have := HJ.out
    refine ⟨k + 1, j + 1, by omega, by omega, by go_num, ?_⟩
    rw [HS.out]
    have := HC.out
    rw [IntWalk.wrap64_in (s[j].toNat : Int) (by omega), IntWalk.wrap64_in (m * 10 + (s[j].toNat : Int)) (by omega), IntWalk.wrap64_in _ (by omega), Int.mul_comm m 10]
   case measure => simp [intOf]; omega
  ·have hkn : k = n := by omega
   subst hkn
   go_wp2
   go_ret
   exact ⟨rfl, rfl⟩
set_option maxHeartbeats 400000 in
theorem cut_any (s : ByteArray) (a b : Nat) (w : World) (ha : a ≤ b) (hb : b ≤ s.size) :
  Calls Tryz.prog 203 #[.string s, .int .i64 a, .int .i64 b] w fun e w' => e = .returned (.string (s.extract a b)) ∧ w' = w := by
 go_enter Tryz.func203, Tryz.ntmps203
 go_wp2
 go_ret
 exact ⟨rfl, rfl⟩
theorem kw_key (s : ByteArray) (k : Kw) : (s.toList == k.bytes) = decide (kwOf s.data.toList = some k) := by
 rw [Lib.toList_data]
 by_cases h : kwOf s.data.toList = some k
 ·rw [decide_eq_true h, kwOf_some h]; simp
 ·rw [decide_eq_false h, beq_eq_false_iff_ne]
  intro e; rw [e, kwOf_bytes] at h; exact h rfl
set_option maxRecDepth 100000 in
set_option maxHeartbeats 1000000 in
theorem kindOf_any (s : ByteArray) (w : World) :
  Calls Tryz.prog 204 #[.string s] w fun e w' => e = .returned (.int .i64 ((kindN (wordCl s.data.toList 0) : Nat) : Int)) ∧ w' = w := by
 have f1 := kw_key s .let_
 have f2 := kw_key s .pair
 have f3 := kw_key s .fst
 have f4 := kw_key s .snd
 have f5 := kw_key s .if_
 have f6 := kw_key s .add
 have f7 := kw_key s .sub
 have f8 := kw_key s .less
 have f9 := kw_key s .loop
 have f10 := kw_key s .new
 simp only [Kw.bytes] at f1 f2 f3 f4 f5 f6 f7 f8 f9 f10
 unfold wordCl
 cases hk : kwOf s.data.toList with
 | none =>
  rw [hk] at f1 f2 f3 f4 f5 f6 f7 f8 f9 f10
  simp only [reduceCtorEq, decide_false] at f1 f2 f3 f4 f5 f6 f7 f8 f9 f10
  clear hk
  go_enter Tryz.func204, Tryz.ntmps204
  go_wp2
  go_ret
  exact ⟨rfl, rfl⟩
 | some k =>
  rw [hk] at f1 f2 f3 f4 f5 f6 f7 f8 f9 f10
  clear hk
  cases k
  all_goals
   simp only [Option.some.injEq, reduceCtorEq, decide_false, decide_true] at f1 f2 f3 f4 f5 f6 f7 f8 f9 f10
   go_enter Tryz.func204, Tryz.ntmps204
   go_wp2
   go_ret
   exact ⟨rfl, rfl⟩
def tnVal (t : TN) : Value := .agg #[.int .i64 t.kind, .int .i64 t.at_, .int .i64 t.beh, .string (bs t.word), .int .i64 t.num]
theorem bA_let (s : ByteArray) (k : Nat) (lo hi : Int) (hlo : 0 < lo) : (inB lo hi (bA s k) = true ∧ k < s.size ∧ run lo hi (s.data.toList.drop k) = run lo hi (s.data.toList.drop (k + 1)) + 1) ∨ (inB lo hi (bA s k) = false ∧ run lo hi (s.data.toList.drop k) = 0) := by
 by_cases h : k < s.size
 ·rw [bA_in s k h, drop_cons s k h]
  cases hb : inB lo hi s[k] with
  | true => left; exact ⟨rfl, h, by simp [run, hb]⟩
  | false => right; exact ⟨rfl, by simp [run, hb]⟩
 ·right
  rw [bA_out s k (by omega), drop_end s k (by omega)]
  refine ⟨?_, rfl⟩
  unfold inB
  have h0 : ((0 : UInt8).toNat : Int) = 0 := rfl
  rw [h0, decide_eq_false (by omega : ¬ lo ≤ 0)]; rfl
theorem wordCl_small (l : List UInt8) (n : Nat) (h : n ≤ 8) : wordCl l n = wordCl l 0 := by
 unfold wordCl; cases kwOf l <;> simp [h]
theorem wordCl_big (l : List UInt8) (h : 8 < l.length) : wordCl l l.length = .bad := by
 unfold wordCl
 cases hk : kwOf l with
 | none => simp; omega
 | some k =>
  have := kwOf_some hk
  rw [this] at h
  clear this hk
  revert h
  cases k <;> simp [Kw.bytes]
set_option maxRecDepth 100000 in
set_option maxHeartbeats 1000000 in
theorem readWord_any (s : ByteArray) (a n : Nat) (w : World) (hs : s.size ≤ 9000) (hn : n = run 97 122 (s.data.toList.drop a)) (ha : a + n ≤ s.size) :
  Calls Tryz.prog 194 #[.string s, .int .i64 a] w fun e w' => e = .returned (tnVal ⟨kindN (wordCl ((s.data.toList.drop a).take n) n), a, a + n, if n ≤ 8 then (s.data.toList.drop a).take n else [], 0⟩) ∧ Below w.heap.size w w' := by
 have hby := fun k (h : k ≤ 10000) w => byteAt_any s k w h
 have HN : Hid _ := hn
 clear hn
 go_enter Tryz.func194, Tryz.ntmps194
 go_wp2
 go_loop [5] (fun i => ∃ k j : Nat, k ≤ n ∧ Hid (j = a + k) ∧ j ≤ s.size ∧ i = .int .i64 j ∧ Hid (n = k + run 97 122 (s.data.toList.drop j))) (fun i => s.size - (intOf i).toNat)
 case atStart => exact ⟨0, a, by omega, (rfl : a = a + 0), by omega, rfl, (by rw [← HN.out]; omega : n = 0 + run 97 122 (s.data.toList.drop a))⟩
 case round =>
  obtain ⟨k, j, hk, HJ, hjs, rfl, HR⟩ := hrel
  have hbk := hby j (by omega)
  have hil := fun w => isLetter_any (bA s j) w
  rcases bA_let s j 97 122 (by decide) with ⟨h1, h2, h3⟩ | ⟨h1, h2⟩
  ·rw [h1] at hil
   have H3 : Hid _ := h3
   clear h1 h3
   go_wp2_with (first
    | (go_at_call 192; refine (hbk _).mono ?_; rintro e w' ⟨rfl, rfl⟩)
    | (go_at_call 193; refine (hil _).mono ?_; rintro e w' ⟨rfl, rfl⟩))
   go_round
   case rel => exact ⟨k + 1, j + 1, by have h := HR.out; rw [H3.out] at h; omega, (by have h := HJ.out; omega : j + 1 = a + (k + 1)), by omega, by go_num, (by have h := HR.out; rw [H3.out] at h; omega : n = (k + 1) + run 97 122 (s.data.toList.drop (j + 1)))⟩
   case measure => simp [intOf]; omega
  ·rw [h1] at hil
   have hkn : k = n := by have h := HR.out; rw [h2] at h; omega
   have hja : j = a + n := by rw [← hkn]; exact HJ.out
   clear h1 h2 HR
   have hcu := fun w => cut_any s a j w (by omega) hjs
   have hkd := fun w => kindOf_any (s.extract a j) w
   have hex : (s.extract a j).data.toList = (s.data.toList.drop a).take n := by rw [hja, ext_of]
   rw [hex] at hkd
   have HEX : Hid _ := bs_eq hex
   have HJ' : Hid (j = a + n) := hja
   have hjk : (j : Int) - (a : Int) = (n : Int) := by omega
   clear hex hja hkn HJ hk
   by_cases h8 : n ≤ 8
   ·have H8 : Hid (n ≤ 8) := h8
    go_wp2_with (first
     | (go_at_call 192; refine (hbk _).mono ?_; rintro e w' ⟨rfl, rfl⟩)
     | (go_at_call 193; refine (hil _).mono ?_; rintro e w' ⟨rfl, rfl⟩)
     | (go_at_call 203; refine (hcu _).mono ?_; rintro e w' ⟨rfl, rfl⟩)
     | (go_at_call 204; refine (hkd _).mono ?_; rintro e w' ⟨rfl, rfl⟩))
    refine bodyPost_ret (v := .agg #[.int .i64 ((kindN (wordCl ((s.data.toList.drop a).take n) 0) : Nat) : Int), .int .i64 a, .int .i64 j, .string (s.extract a j), .int .i64 0]) (by simp [results, Tryz.results194, go_sem]) rfl ⟨?_, (Below.refl _ _).alloc (Nat.le_refl _) _⟩
    rw [HEX.out, HJ'.out, wordCl_small _ _ H8.out]; first | rfl | (rw [if_pos H8.out]; rfl)
   ·have H8 : Hid (¬ n ≤ 8) := h8
    have hlen : ((s.data.toList.drop a).take n).length = n := by simp; omega
    have HB : Hid (wordCl ((s.data.toList.drop a).take n) n = .bad) := by
     have := wordCl_big ((s.data.toList.drop a).take n) (by omega)
     rw [hlen] at this; exact this
    clear hlen
    go_wp2_with (first
     | (go_at_call 192; refine (hbk _).mono ?_; rintro e w' ⟨rfl, rfl⟩)
     | (go_at_call 193; refine (hil _).mono ?_; rintro e w' ⟨rfl, rfl⟩))
    refine bodyPost_ret (v := .agg #[.int .i64 1, .int .i64 a, .int .i64 j, .string ⟨#[]⟩, .int .i64 0]) (by simp [results, Tryz.results194, go_sem]) rfl ⟨?_, (Below.refl _ _).alloc (Nat.le_refl _) _⟩
    rw [HB.out, HJ'.out]; first | rfl | (rw [if_neg H8.out]; rfl)
theorem run_mem (lo hi : Int) (l : List UInt8) : ∀ c ∈ l.take (run lo hi l), inB lo hi c = true := by
 induction l with
 | nil => simp
 | cons c r ih =>
  simp only [run]
  by_cases h : inB lo hi c = true
  ·rw [if_pos h, List.take_succ_cons]
   intro x hx
   rcases List.mem_cons.1 hx with rfl | hx
   ·exact h
   ·exact ih x hx
  ·rw [if_neg h]; simp
def numTN (l : List UInt8) (most kind a d n : Nat) : TN := if numeralB (l.take n) most then ⟨kind, a, d + n, [], valueL (l.take n)⟩ else ⟨1, a, d + n, [], 0⟩
set_option maxRecDepth 100000 in
set_option maxHeartbeats 2000000 in
theorem readNumber_any (s : ByteArray) (a d n most kind : Nat) (w : World) (hs : s.size ≤ 9000) (hn : n = run 48 57 (s.data.toList.drop d)) (ha : d + n ≤ s.size) (hm : 3 ≤ most ∧ most ≤ 4) :
  Calls Tryz.prog 196 #[.string s, .int .i64 a, .int .i64 d, .int .i64 most, .int .i64 kind] w fun e w' => e = .returned (tnVal (numTN (s.data.toList.drop d) most kind a d n)) ∧ Below w.heap.size w w' := by
 have hby := fun k (h : k ≤ 10000) w => byteAt_any s k w h
 have hdig : ∀ c ∈ (s.data.toList.drop d).take n, c ≠ 35 := by
  rw [hn]; intro c hc e
  have := run_mem 48 57 _ c hc
  rw [e] at this; revert this; decide
 have HDIG : Hid _ := hdig
 have HN : Hid _ := hn
 have hlen : ((s.data.toList.drop d).take n).length = n := by simp; omega
 have hhead : 0 < n → ((s.data.toList.drop d).take n).head? = some (bA s d) := by
  intro h0
  rw [bA_in s d (by omega), drop_cons s d (by omega)]
  obtain ⟨m, rfl⟩ : ∃ m, n = m + 1 := ⟨n - 1, by omega⟩
  simp
 have hnum : numeralB ((s.data.toList.drop d).take n) most = (decide (0 < n) && decide (n ≤ most) && (decide (n = 1) || (((s.data.toList.drop d).take n).head? != some 48))) := by unfold numeralB; rw [hlen]
 have HNUM : Hid _ := hnum
 have HHEAD : Hid _ := hhead
 clear hn hdig hlen hnum hhead
 go_enter Tryz.func196, Tryz.ntmps196
 go_wp2
 go_loop [11] (fun i => ∃ k j : Nat, k ≤ n ∧ Hid (j = d + k) ∧ j ≤ s.size ∧ i = .int .i64 j ∧ Hid (n = k + run 48 57 (s.data.toList.drop j))) (fun i => s.size - (intOf i).toNat)
 case atStart => exact ⟨0, d, by omega, (rfl : d = d + 0), by omega, rfl, (by rw [← HN.out]; omega : n = 0 + run 48 57 (s.data.toList.drop d))⟩
 case round =>
  obtain ⟨k, j, hk, HJ, hjs, rfl, HR⟩ := hrel
  have hbk := hby j (by omega)
  have hil := fun w => isDigit_any (bA s j) w
  rcases bA_let s j 48 57 (by decide) with ⟨h1, h2, h3⟩ | ⟨h1, h2⟩
  ·rw [h1] at hil
   have H3 : Hid _ := h3
   clear h1 h3
   go_wp2_with (first
    | (go_at_call 192; refine (hbk _).mono ?_; rintro e w' ⟨rfl, rfl⟩)
    | (go_at_call 195; refine (hil _).mono ?_; rintro e w' ⟨rfl, rfl⟩))
   go_round
   case rel => exact ⟨k + 1, j + 1, by have h := HR.out; rw [H3.out] at h; omega, (by have h := HJ.out; omega : j + 1 = d + (k + 1)), by omega, by go_num, (by have h := HR.out; rw [H3.out] at h; omega : n = (k + 1) + run 48 57 (s.data.toList.drop (j + 1)))⟩
   case measure => simp [intOf]; omega
  ·rw [h1] at hil
   have hkn : k = n := by have h := HR.out; rw [h2] at h; omega
   have hja : j = d + n := by rw [← hkn]; exact HJ.out
   clear h1 h2 HR
   have HJ' : Hid (j = d + n) := hja
   have hjk : (j : Int) - (d : Int) = (n : Int) := by omega
   have hbd := hby d (by omega)
   have e48 : (((bA s d).toNat : Int) == 48) = (bA s d == 48) := byte_eq (bA s d) 48
   have HE48 : Hid _ := e48
   clear hja hkn HJ hk e48
   by_cases c0 : n = 0
   ·have b0 : ((n : Int) == 0) = true := by rw [c0]; rfl
    have HF : Hid (numTN (s.data.toList.drop d) most kind a d n = ⟨1, a, d + n, [], 0⟩) := by
     have : numeralB ((s.data.toList.drop d).take n) most = false := by rw [HNUM.out]; simp [c0]
     unfold numTN; rw [this]; rfl
    have c0' : n < 1 := by omega
    clear c0
    go_wp2_with (first
     | (go_at_call_of 192 (Value.int IntKind.i64 (j : Int)); refine (hbk _).mono ?_; rintro e w' ⟨rfl, rfl⟩)
     | (go_at_call_of 192 (Value.int IntKind.i64 (d : Int)); refine (hbd _).mono ?_; rintro e w' ⟨rfl, rfl⟩)
     | (go_at_call 195; refine (hil _).mono ?_; rintro e w' ⟨rfl, rfl⟩)
     | (go_at_call 205; refine (hva _).mono ?_; rintro e w' ⟨rfl, rfl⟩))
    refine bodyPost_ret (v := .agg #[.int .i64 1, .int .i64 a, .int .i64 j, .string ⟨#[]⟩, .int .i64 0]) (by simp [results, Tryz.results196, go_sem]) rfl ⟨?_, (Below.refl _ _).alloc (Nat.le_refl _) _⟩
    rw [HF.out, HJ'.out]; rfl
   ·have b0 : ((n : Int) == 0) = false := by rw [beq_eq_false_iff_ne]; omega
    have c1 : 1 ≤ n := by omega
    have hh := HHEAD.out (by omega)
    by_cases cm : n ≤ most
    ·have hva := fun w => valueOf_any s d n j w hs HJ'.out hjs (by omega) HDIG.out
     by_cases c2 : n = 1
     ·have HF : Hid (numTN (s.data.toList.drop d) most kind a d n = ⟨kind, a, d + n, [], valueL ((s.data.toList.drop d).take n)⟩) := by
       have : numeralB ((s.data.toList.drop d).take n) most = true := by rw [HNUM.out]; simp [c2]; omega
       unfold numTN; rw [this]; rfl
      have c2' : n < 2 := by omega
      clear c2 hh c0
      go_wp2_with (first
       | (go_at_call_of 192 (Value.int IntKind.i64 (j : Int)); refine (hbk _).mono ?_; rintro e w' ⟨rfl, rfl⟩)
       | (go_at_call_of 192 (Value.int IntKind.i64 (d : Int)); refine (hbd _).mono ?_; rintro e w' ⟨rfl, rfl⟩)
       | (go_at_call 195; refine (hil _).mono ?_; rintro e w' ⟨rfl, rfl⟩)
       | (go_at_call 205; refine (hva _).mono ?_; rintro e w' ⟨rfl, rfl⟩))
      refine bodyPost_ret (v := .agg #[.int .i64 kind, .int .i64 a, .int .i64 j, .string ⟨#[]⟩, .int .i64 (valueL ((s.data.toList.drop d).take n))]) (by simp [results, Tryz.results196, go_sem]) rfl ⟨?_, (Below.refl _ _).alloc (Nat.le_refl _) _⟩
      rw [HF.out, HJ'.out]; rfl
     ·cases e0 : (bA s d == 48) with
      | true =>
       have b48 : (((bA s d).toNat : Int) == 48) = true := by rw [HE48.out]; exact e0
       have HF : Hid (numTN (s.data.toList.drop d) most kind a d n = ⟨1, a, d + n, [], 0⟩) := by
        have h48 : bA s d = 48 := by simpa using e0
        have : numeralB ((s.data.toList.drop d).take n) most = false := by rw [HNUM.out, hh, h48]; simp [c2]
        unfold numTN; rw [this]; rfl
       have c2' : 1 < n := by omega
       clear c2 hh c0 e0
       go_wp2_with (first
        | (go_at_call_of 192 (Value.int IntKind.i64 (j : Int)); refine (hbk _).mono ?_; rintro e w' ⟨rfl, rfl⟩)
        | (go_at_call_of 192 (Value.int IntKind.i64 (d : Int)); refine (hbd _).mono ?_; rintro e w' ⟨rfl, rfl⟩)
        | (go_at_call 195; refine (hil _).mono ?_; rintro e w' ⟨rfl, rfl⟩)
        | (go_at_call 205; refine (hva _).mono ?_; rintro e w' ⟨rfl, rfl⟩))
       refine bodyPost_ret (v := .agg #[.int .i64 1, .int .i64 a, .int .i64 j, .string ⟨#[]⟩, .int .i64 0]) (by simp [results, Tryz.results196, go_sem]) rfl ⟨?_, (Below.refl _ _).alloc (Nat.le_refl _) _⟩
       rw [HF.out, HJ'.out]; rfl
      | false =>
       have b48 : (((bA s d).toNat : Int) == 48) = false := by rw [HE48.out]; exact e0
       have HF : Hid (numTN (s.data.toList.drop d) most kind a d n = ⟨kind, a, d + n, [], valueL ((s.data.toList.drop d).take n)⟩) := by
        have h48 : bA s d ≠ 48 := by simpa using e0
        have : numeralB ((s.data.toList.drop d).take n) most = true := by rw [HNUM.out, hh]; simp [h48, cm]; omega
        unfold numTN; rw [this]; rfl
       have c2' : 1 < n := by omega
       clear c2 hh c0 e0
       go_wp2_with (first
        | (go_at_call_of 192 (Value.int IntKind.i64 (j : Int)); refine (hbk _).mono ?_; rintro e w' ⟨rfl, rfl⟩)
        | (go_at_call_of 192 (Value.int IntKind.i64 (d : Int)); refine (hbd _).mono ?_; rintro e w' ⟨rfl, rfl⟩)
        | (go_at_call 195; refine (hil _).mono ?_; rintro e w' ⟨rfl, rfl⟩)
        | (go_at_call 205; refine (hva _).mono ?_; rintro e w' ⟨rfl, rfl⟩))
       refine bodyPost_ret (v := .agg #[.int .i64 kind, .int .i64 a, .int .i64 j, .string ⟨#[]⟩, .int .i64 (valueL ((s.data.toList.drop d).take n))]) (by simp [results, Tryz.results196, go_sem]) rfl ⟨?_, (Below.refl _ _).alloc (Nat.le_refl _) _⟩
       rw [HF.out, HJ'.out]; rfl
    ·have HF : Hid (numTN (s.data.toList.drop d) most kind a d n = ⟨1, a, d + n, [], 0⟩) := by
      have : numeralB ((s.data.toList.drop d).take n) most = false := by rw [HNUM.out]; simp [cm]
      unfold numTN; rw [this]; rfl
     have c2' : 1 < n := by omega
     clear hh c0
     go_wp2_with (first
      | (go_at_call_of 192 (Value.int IntKind.i64 (j : Int)); refine (hbk _).mono ?_; rintro e w' ⟨rfl, rfl⟩)
      | (go_at_call_of 192 (Value.int IntKind.i64 (d : Int)); refine (hbd _).mono ?_; rintro e w' ⟨rfl, rfl⟩)
      | (go_at_call 195; refine (hil _).mono ?_; rintro e w' ⟨rfl, rfl⟩)
      | (go_at_call 205; refine (hva _).mono ?_; rintro e w' ⟨rfl, rfl⟩))
     refine bodyPost_ret (v := .agg #[.int .i64 1, .int .i64 a, .int .i64 j, .string ⟨#[]⟩, .int .i64 0]) (by simp [results, Tryz.results196, go_sem]) rfl ⟨?_, (Below.refl _ _).alloc (Nat.le_refl _) _⟩
     rw [HF.out, HJ'.out]; rfl
end Go.Proofs.YtpicaknklgccoaaGreatDoor
