import Derived.Test.YtpicaknklgccoabGreatDoorProg
import Derived.WalkKit
import Derived.WalkSpells
import Derived.WalkLawsBesides
import Derived.Lib.Strings
import Derived.Lib.IndexBytes
import Derived.Deep.RegionWith
import Derived.ArgAppend
import Derived.BigRegion
import Derived.BigQuiet
import Derived.Deep.QuietTactic
import Derived.Lib.ItoaNum
import Derived.Deep.RegionHeld3
import Derived.Shelf.Lay
import Derived.Shelf.LaysM
import Derived.Shelf.Strconv.Itoa3
import Derived.Lib.AppendIntMem
import Derived.Deep.LoopGhost
import Derived.Deep.DeepCutAuto
import Derived.Deep.Light
namespace Go.Proofs.YtpicaknklgccoabGreatDoor
def inB (lo hi : Int) (c : UInt8) : Bool := decide (lo ≤ (c.toNat : Int)) && decide ((c.toNat : Int) ≤ hi)
def run (lo hi : Int) : List UInt8 → Nat
 | [] => 0
 | c :: r => if inB lo hi c then run lo hi r + 1 else 0
theorem run_le (lo hi : Int) (l : List UInt8) : run lo hi l ≤ l.length := by
 induction l with
 | nil => simp [run]
 | cons c r ih => simp only [run]; split <;> simp <;> omega
def numeralB (l : List UInt8) (most : Nat) : Bool := decide (0 < l.length) && decide (l.length ≤ most) && (decide (l.length = 1) || (l.head? != some 48))
def valueL (l : List UInt8) : Int := l.foldl (fun n c => if c = 35 then n else 10 * n + (c.toNat : Int) - 48) 0
theorem valueL_snoc (l : List UInt8) (c : UInt8) : valueL (l ++ [c]) = if c = 35 then valueL l else 10 * valueL l + (c.toNat : Int) - 48 := by
 unfold valueL; rw [List.foldl_append]; rfl
theorem fold_bd (l : List UInt8) : ∀ (j : Nat) (a : Int), -(30 * 10 ^ j - 30) ≤ a → a ≤ 30 * 10 ^ j - 30 →
  -(30 * 10 ^ (j + l.length) - 30) ≤ l.foldl (fun n c => if c = 35 then n else 10 * n + (c.toNat : Int) - 48) a ∧ l.foldl (fun n c => if c = 35 then n else 10 * n + (c.toNat : Int) - 48) a ≤ 30 * 10 ^ (j + l.length) - 30 := by
 induction l with
 | nil => intro j a h1 h2; exact ⟨h1, h2⟩
 | cons c r ih =>
  intro j a h1 h2
  have hp : 0 < (10 : Int) ^ j := Int.pow_pos (by omega)
  have hc : c.toNat < 256 := c.toNat_lt
  have e : (10 : Int) ^ (j + 1) = 10 * 10 ^ j := by rw [Int.pow_succ]; omega
  have := ih (j + 1) (if c = 35 then a else 10 * a + (c.toNat : Int) - 48) (by rw [e]; split <;> omega) (by rw [e]; split <;> omega)
  rw [List.length_cons, show j + (r.length + 1) = j + 1 + r.length from by omega]
  exact this
theorem valueL_bd (l : List UInt8) : -(30 * 10 ^ l.length - 30) ≤ valueL l ∧ valueL l ≤ 30 * 10 ^ l.length - 30 := by
 have := fold_bd l 0 0 (by decide) (by decide)
 simpa [valueL] using this
inductive Kw | let_ | pair | fst | snd | if_ | add | sub | less | loop | new
 deriving DecidableEq, Repr
def Kw.bytes : Kw → List UInt8
 | .let_ => [108, 101, 116]
 | .pair => [112, 97, 105, 114]
 | .fst => [102, 115, 116]
 | .snd => [115, 110, 100]
 | .if_ => [105, 102]
 | .add => [97, 100, 100]
 | .sub => [115, 117, 98]
 | .less => [108, 101, 115, 115]
 | .loop => [108, 111, 111, 112]
 | .new => [110, 101, 119]
def kwOf (l : List UInt8) : Option Kw :=
 if l = Kw.let_.bytes then some .let_ else if l = Kw.pair.bytes then some .pair else if l = Kw.fst.bytes then some .fst else
 if l = Kw.snd.bytes then some .snd else if l = Kw.if_.bytes then some .if_ else if l = Kw.add.bytes then some .add else
 if l = Kw.sub.bytes then some .sub else if l = Kw.less.bytes then some .less else if l = Kw.loop.bytes then some .loop else
 if l = Kw.new.bytes then some .new else none
theorem kwOf_some {l : List UInt8} {k : Kw} (h : kwOf l = some k) : l = k.bytes := by
 unfold kwOf at h
 repeat' (split at h; · simp only [Option.some.injEq] at h; subst h; assumption)
 simp at h
theorem kwOf_bytes (k : Kw) : kwOf k.bytes = some k := by cases k <;> decide
inductive Cl | opn | cls | nam | num | reg | bad | kw (k : Kw)
 deriving DecidableEq, Repr
def Cl.bytes : Cl → List UInt8
 | .opn => [40]
 | .cls => [41]
 | .nam => [78, 65, 77, 69]
 | .num => [78, 85, 77, 66, 69, 82]
 | .reg => [82, 69, 71, 73, 79, 78]
 | .bad => [66, 65, 68]
 | .kw k => k.bytes
def wordCl (l : List UInt8) (n : Nat) : Cl := match kwOf l with
 | some k => .kw k
 | none => if n ≤ 8 then .nam else .bad
def tokenOf (l : List UInt8) : Nat × Cl :=
 if 0 < run 97 122 l then
  (run 97 122 l, wordCl (l.take (run 97 122 l)) (run 97 122 l))
 else if 0 < run 48 57 l then
  (run 48 57 l, if numeralB (l.take (run 48 57 l)) 4 then .num else .bad)
 else match l with
  | [] => (1, .bad)
  | c :: r =>
   if c = 35 then (run 48 57 r + 1, if numeralB (r.take (run 48 57 r)) 3 then .reg else .bad)
   else (1, if c = 40 then .opn else if c = 41 then .cls else .bad)
theorem tokenOf_pos (l : List UInt8) : 0 < (tokenOf l).1 := by
 unfold tokenOf
 split
 ·assumption
 ·split
  ·assumption
  ·split
   ·simp
   ·split <;> simp
theorem tokenOf_le (l : List UInt8) (h : l ≠ []) : (tokenOf l).1 ≤ l.length := by
 unfold tokenOf
 split
 ·exact run_le _ _ _
 ·split
  ·exact run_le _ _ _
  ·split
   ·exact absurd rfl h
   ·rename_i c r _ _
    split
    ·have := run_le 48 57 r; simp; omega
    ·simp
structure Tk where
 s : List UInt8
 at_ : Nat
 c : Cl
 deriving Repr
def blankB (c : UInt8) : Bool := c == 32 || c == 10
def toks : Nat → Nat → List UInt8 → List Tk
 | 0, _, _ => []
 | _ + 1, _, [] => []
 | f + 1, p, c :: r =>
  if blankB c then toks f (p + 1) r
  else ⟨(c :: r).take (tokenOf (c :: r)).1, p, (tokenOf (c :: r)).2⟩ :: toks f (p + (tokenOf (c :: r)).1) ((c :: r).drop (tokenOf (c :: r)).1)
theorem toks_fuel : ∀ (f g p : Nat) (l : List UInt8), l.length ≤ f → l.length ≤ g → toks f p l = toks g p l := by
 intro f
 induction f with
 | zero => intro g p l h1 h2; have : l = [] := List.length_eq_zero_iff.1 (by omega); subst this; cases g <;> rfl
 | succ f ih =>
  intro g p l h1 h2
  cases l with
  | nil => cases g <;> rfl
  | cons c r =>
   cases g with
   | zero => simp at h2
   | succ g =>
    simp only [List.length_cons] at h1 h2
    simp only [toks]
    have hp := tokenOf_pos (c :: r)
    split
    ·exact ih g _ r (by omega) (by omega)
    ·rw [ih g _ _ (by simp; omega) (by simp; omega)]
def tokens (l : List UInt8) : List Tk := toks l.length 0 l
theorem toks_blank (f p : Nat) (c : UInt8) (r : List UInt8) (h : blankB c = true) : toks (f + 1) p (c :: r) = toks f (p + 1) r := by simp [toks, h]
theorem toks_tok (f p : Nat) (c : UInt8) (r : List UInt8) (h : blankB c = false) : toks (f + 1) p (c :: r) = ⟨(c :: r).take (tokenOf (c :: r)).1, p, (tokenOf (c :: r)).2⟩ :: toks f (p + (tokenOf (c :: r)).1) ((c :: r).drop (tokenOf (c :: r)).1) := by simp [toks, h]
end Go.Proofs.YtpicaknklgccoabGreatDoor
namespace Go.Proofs.YtpicaknklgccoabGreatDoor
open Go.RowKit
theorem drop_cons (s : ByteArray) (k : Nat) (h : k < s.size) : s.data.toList.drop k = s[k] :: s.data.toList.drop (k + 1) := by
 rw [List.drop_eq_getElem_cons (by simpa using h)]; rfl
theorem drop_end (s : ByteArray) (k : Nat) (h : s.size ≤ k) : s.data.toList.drop k = [] := by
 rw [List.drop_eq_nil_iff]; simpa using h
theorem ret_int {k : IntKind} {a b : Int} (h : a = b) : Ending.returned (.int k a) = .returned (.int k b) := by rw [h]
theorem byte_eq (a b : UInt8) : ((a.toNat : Int) == (b.toNat : Int)) = (a == b) := by
 rw [Bool.eq_iff_iff]
 simp only [beq_iff_eq]
 constructor
 ·intro h; apply UInt8.toNat_inj.1; omega
 ·intro h; rw [h]
theorem ret_bool {a b : Bool} (h : a = b) : Ending.returned (.bool a) = .returned (.bool b) := by rw [h]
theorem pow5 (k : Nat) (h : k ≤ 5) : (10 : Int) ^ k ≤ 100000 := by
 match k, h with
 | 0, _ => decide
 | 1, _ => decide
 | 2, _ => decide
 | 3, _ => decide
 | 4, _ => decide
 | 5, _ => decide
def bs (l : List UInt8) : ByteArray := ⟨l.toArray⟩
theorem bs_eq {s : ByteArray} {l : List UInt8} (h : s.data.toList = l) : s = bs l := by subst h; cases s; rfl
theorem ext_of (s : ByteArray) (a n : Nat) : (s.extract a (a + n)).data.toList = (s.data.toList.drop a).take n := by
 rw [Lib.extract_data, show a + n - a = n from by omega]
theorem size_list (s : ByteArray) : s.data.toList.length = s.size := by simp
theorem toks_step_blank (s : ByteArray) (k : Nat) (hk : k < s.size) (h : blankB s[k] = true) : toks (s.size - k) k (s.data.toList.drop k) = toks (s.size - (k + 1)) (k + 1) (s.data.toList.drop (k + 1)) := by
 rw [drop_cons s k hk, show s.size - k = (s.size - (k + 1)) + 1 from by omega, toks_blank _ _ _ _ h]
def tkAt (s : ByteArray) (k : Nat) : Tk := ⟨(s.data.toList.drop k).take (tokenOf (s.data.toList.drop k)).1, k, (tokenOf (s.data.toList.drop k)).2⟩
theorem toks_step_tok (s : ByteArray) (k : Nat) (hk : k < s.size) (h : blankB s[k] = false) :
  toks (s.size - k) k (s.data.toList.drop k) = tkAt s k :: toks (s.size - (k + (tokenOf (s.data.toList.drop k)).1)) (k + (tokenOf (s.data.toList.drop k)).1) (s.data.toList.drop (k + (tokenOf (s.data.toList.drop k)).1)) := by
 have hp := tokenOf_pos (s.data.toList.drop k)
 have e : toks (s.size - k) k (s.data.toList.drop k) = tkAt s k :: toks (s.size - (k + 1)) (k + (tokenOf (s.data.toList.drop k)).1) ((s.data.toList.drop k).drop (tokenOf (s.data.toList.drop k)).1) := by
  unfold tkAt
  rw [drop_cons s k hk]
  conv => lhs; rw [show s.size - k = (s.size - (k + 1)) + 1 from by omega]
  rw [toks_tok _ _ _ _ h]
 rw [e, List.drop_drop]
 congr 1
 apply toks_fuel
 ·simp; omega
 ·simp
theorem grown_of_below {w w' : World} (h : Below w.heap.size w w') (row : Option Nat) : w.grownBy w' row := ⟨h.os, h.tape, h.output, h.size, fun k hk _ => h.block k hk⟩
theorem owns_below {w w' : World} {base : Nat} {e : TypeId} {size : Nat} {v : Value} {n : Nat} {xs : List Value} (h : w.ownsRow base e size v n xs) (hb : Below w.heap.size w w') : w'.ownsRow base e size v n xs := by
 refine h.kept (grown_of_below hb none) ?_
 cases v.ownBlock <;> simp
theorem bs_size (l : List UInt8) : (bs l).size = l.length := by show l.toArray.size = l.length; simp
theorem tkAt_len (s : ByteArray) (k : Nat) (hk : k < s.size) : (tkAt s k).s.length = (tokenOf (s.data.toList.drop k)).1 := by
 have := tokenOf_le (s.data.toList.drop k) (by rw [drop_cons s k hk]; simp)
 unfold tkAt
 simp only [List.length_take]; omega
end Go.Proofs.YtpicaknklgccoabGreatDoor
namespace Go.Proofs.YtpicaknklgccoabGreatDoor
inductive Wt | e | word | close | name | region
 deriving DecidableEq, Repr
def Wt.bytes : Wt → List UInt8
 | .e => [101]
 | .word => [119, 111, 114, 100]
 | .close => [41]
 | .name => [78, 65, 77, 69]
 | .region => [82, 69, 71, 73, 79, 78]
def wantsK (k : Kw) (placed : Bool) : List Wt :=
 match k, placed with
 | .let_, _ => [.name, .e, .e, .close]
 | .loop, _ => [.e, .name, .e, .e, .close]
 | .pair, true => [.region, .e, .e, .close]
 | .new, true => [.region, .e, .close]
 | .pair, false => [.e, .e, .close]
 | .add, _ => [.e, .e, .close]
 | .sub, _ => [.e, .e, .close]
 | .less, _ => [.e, .e, .close]
 | .fst, _ => [.e, .close]
 | .snd, _ => [.e, .close]
 | .if_, _ => [.e, .e, .e, .close]
 | .new, false => []
def wantsC (c : Cl) (placed : Bool) : List Wt := match c with
 | .kw k => wantsK k placed
 | _ => []
def formRun (placed : Bool) (len : Nat) : List Tk → List Wt → Option Nat
 | [], [] => none
 | [], _ :: _ => some len
 | t :: _, [] => some t.at_
 | t :: ts, .e :: p => match t.c with
  | .opn => formRun placed len ts (.word :: p)
  | .num => formRun placed len ts p
  | .nam => formRun placed len ts p
  | _ => some t.at_
 | t :: ts, .word :: p => if wantsC t.c placed = [] then some t.at_ else formRun placed len ts (wantsC t.c placed ++ p)
 | t :: ts, .close :: p => if t.c = .cls then formRun placed len ts p else some t.at_
 | t :: ts, .name :: p => if t.c = .nam then formRun placed len ts p else some t.at_
 | t :: ts, .region :: p => if t.c = .reg then formRun placed len ts p else some t.at_
theorem toks_len : ∀ (f p : Nat) (l : List UInt8), (toks f p l).length ≤ l.length := by
 intro f
 induction f with
 | zero => intro p l; simp [toks]
 | succ f ih =>
  intro p l
  cases l with
  | nil => simp [toks]
  | cons c r =>
   simp only [toks]
   split
   ·have := ih (p + 1) r; simp; omega
   ·have hp := tokenOf_pos (c :: r)
    have := ih (p + (tokenOf (c :: r)).1) ((c :: r).drop (tokenOf (c :: r)).1)
    simp only [List.length_drop, List.length_cons] at this
    simp only [List.length_cons]; omega
end Go.Proofs.YtpicaknklgccoabGreatDoor
namespace Go.Proofs.YtpicaknklgccoabGreatDoor
open Go.RowKit
theorem bs_beq (l m : List UInt8) : ((bs l).toList == m) = (l == m) := by rw [Lib.toList_data]; rfl
theorem alloc_cell_at (w : World) (l : List Value) (e : TypeId) (j : Nat) : (w.alloc (.cells l.toArray e)).cell? (Addr.add ⟨w.heap.size, 0, none⟩ j) = l[j]? := by
 rcases j with _ | j <;> simp [Addr.add]
end Go.Proofs.YtpicaknklgccoabGreatDoor
namespace Go.Proofs.YtpicaknklgccoabGreatDoor
inductive PT where
 | num (p : Nat) (s : List UInt8)
 | name (p : Nat) (s : List UInt8)
 | node (p : Nat) (k : Kw) (nm rg : List UInt8) (kids : List PT)
mutual
def PT.cnt : PT → Nat
 | .num _ _ => 1
 | .name _ _ => 1
 | .node _ _ _ _ kids => 1 + cntL kids
def cntL : List PT → Nat
 | [] => 0
 | t :: r => t.cnt + cntL r
end
mutual
def PT.prs : PT → Nat
 | .num _ _ => 0
 | .name _ _ => 0
 | .node _ k _ _ kids => (if k = .pair then 1 else 0) + prsL kids
def prsL : List PT → Nat
 | [] => 0
 | t :: r => t.prs + prsL r
end
mutual
inductive PE (placed : Bool) : List Tk → PT → List Tk → Prop
 | num {t : Tk} {r : List Tk} : t.c = .num → PE placed (t :: r) (.num t.at_ t.s) r
 | name {t : Tk} {r : List Tk} : t.c = .nam → PE placed (t :: r) (.name t.at_ t.s) r
 | node {t u : Tk} {k : Kw} {r r' : List Tk} {nm rg : List UInt8} {kids : List PT} : t.c = .opn → u.c = .kw k → wantsK k placed ≠ [] →
   PW placed (wantsK k placed) r nm rg kids r' → PE placed (t :: u :: r) (.node t.at_ k nm rg kids) r'
inductive PW (placed : Bool) : List Wt → List Tk → List UInt8 → List UInt8 → List PT → List Tk → Prop
 | nil {r : List Tk} : PW placed [] r [] [] [] r
 | close {t : Tk} {ws : List Wt} {r r' : List Tk} {nm rg : List UInt8} {kids : List PT} : t.c = .cls → PW placed ws r nm rg kids r' → PW placed (.close :: ws) (t :: r) nm rg kids r'
 | name {t : Tk} {ws : List Wt} {r r' : List Tk} {nm rg : List UInt8} {kids : List PT} : t.c = .nam → PW placed ws r nm rg kids r' → PW placed (.name :: ws) (t :: r) t.s rg kids r'
 | region {t : Tk} {ws : List Wt} {r r' : List Tk} {nm rg : List UInt8} {kids : List PT} : t.c = .reg → PW placed ws r nm rg kids r' → PW placed (.region :: ws) (t :: r) nm t.s kids r'
 | e {e : PT} {ws : List Wt} {l r r' : List Tk} {nm rg : List UInt8} {kids : List PT} : PE placed l e r → PW placed ws r nm rg kids r' → PW placed (.e :: ws) l nm rg (e :: kids) r'
end
mutual
theorem PE.sound {placed : Bool} {len : Nat} : ∀ {l : List Tk} {e : PT} {r : List Tk}, PE placed l e r → ∀ p, formRun placed len l (.e :: p) = formRun placed len r p
 | _, _, _, .num h, p => by simp [formRun, h]
 | _, _, _, .name h, p => by simp [formRun, h]
 | _, _, _, .node (k := k) h1 h2 h3 h4, p => by
  have := PW.sound (len := len) h4 p
  simp only [formRun, h1, h2, wantsC]
  rw [if_neg h3]; exact this
theorem PW.sound {placed : Bool} {len : Nat} : ∀ {ws : List Wt} {l : List Tk} {nm rg : List UInt8} {kids : List PT} {r : List Tk}, PW placed ws l nm rg kids r → ∀ p, formRun placed len l (ws ++ p) = formRun placed len r p
 | _, _, _, _, _, _, .nil, p => rfl
 | _, _, _, _, _, _, .close h h1, p => by have := PW.sound (len := len) h1 p; simp only [List.cons_append, formRun, if_pos h]; exact this
 | _, _, _, _, _, _, .name h h1, p => by have := PW.sound (len := len) h1 p; simp only [List.cons_append, formRun, if_pos h]; exact this
 | _, _, _, _, _, _, .region h h1, p => by have := PW.sound (len := len) h1 p; simp only [List.cons_append, formRun, if_pos h]; exact this
 | _, _, _, _, _, _, .e (ws := ws) h h1, p => by have := PE.sound (len := len) h (ws ++ p); rw [List.cons_append, this]; exact PW.sound h1 p
end
mutual
theorem PE.len {placed : Bool} : ∀ {l : List Tk} {e : PT} {r : List Tk}, PE placed l e r → r.length < l.length
 | _, _, _, .num _ => by simp
 | _, _, _, .name _ => by simp
 | _, _, _, .node _ _ _ h4 => by have := PW.len h4; simp; omega
theorem PW.len {placed : Bool} : ∀ {ws : List Wt} {l : List Tk} {nm rg : List UInt8} {kids : List PT} {r : List Tk}, PW placed ws l nm rg kids r → r.length ≤ l.length
 | _, _, _, _, _, _, .nil => Nat.le_refl _
 | _, _, _, _, _, _, .close _ h1 => by have := PW.len h1; simp; omega
 | _, _, _, _, _, _, .name _ h1 => by have := PW.len h1; simp; omega
 | _, _, _, _, _, _, .region _ h1 => by have := PW.len h1; simp; omega
 | _, _, _, _, _, _, .e h h1 => by have := PE.len h; have := PW.len h1; omega
end
end Go.Proofs.YtpicaknklgccoabGreatDoor
namespace Go.Proofs.YtpicaknklgccoabGreatDoor
open Go.RowKit
theorem blk_cell {w : World} {b : Nat} {arr : Array Value} {t : TypeId} {fr : Nat × Nat} (h : w.heap[b]? = some (.cells arr t fr)) (o : Nat) : w.cell? ⟨b, o, none⟩ = arr[o]? := by
 simp [World.cell?, h]
theorem blk_free {w : World} {b : Nat} {arr : Array Value} {t : TypeId} (h : w.heap[b]? = some (.cells arr t (0, 0))) (o : Nat) : w.frozen? ⟨b, o, none⟩ = false := by
 simp [World.frozen?, h]
theorem blk_set {w : World} {b : Nat} {arr : Array Value} {t : TypeId} {fr : Nat × Nat} (h : w.heap[b]? = some (.cells arr t fr)) (o : Nat) (u : Value) : (w.setCell ⟨b, o, none⟩ u).heap[b]? = some (.cells (arr.setIfInBounds o u) t fr) := by
 simp [World.setCell, Array.getElem?_modify, h]
theorem blk_other {w : World} {b : Nat} (a : Addr) (u : Value) (hb : b ≠ a.block) : (w.setCell a u).heap[b]? = w.heap[b]? := Below.heap_setCell _ _ _ _ hb
theorem blk_lt {w : World} {b : Nat} {o : Obj} (h : w.heap[b]? = some o) : b < w.heap.size := by
 rcases Nat.lt_or_ge b w.heap.size with h1 | h1
 ·exact h1
 ·rw [Array.getElem?_eq_none h1] at h; cases h
theorem blk_alloc {w : World} {b : Nat} {x : Obj} (o : Obj) (h : w.heap[b]? = some x) : (w.alloc o).heap[b]? = some x := by
 rw [Below.heap_alloc _ _ _ (blk_lt h)]; exact h
theorem blk_new (w : World) (o : Obj) : (w.alloc o).heap[w.heap.size]? = some o := by
 show (w.heap.push o)[w.heap.size]? = _; simp
theorem owns_base {w : World} {base base' : Nat} {e : TypeId} {size : Nat} {v : Value} {n : Nat} {xs : List Value} (h : w.ownsRow base e size v n xs) (hb : ∀ k, v.ownBlock = some k → base' ≤ k) : w.ownsRow base' e size v n xs := by
 obtain ⟨h1, h2⟩ := h
 refine ⟨h1, ?_⟩
 rcases h2 with h2 | ⟨g, cap, cur, hv, hg, hh, r⟩
 ·exact Or.inl h2
 ·exact Or.inr ⟨g, cap, cur, hv, hb g (by rw [hv]; rfl), hh, r⟩
theorem owns_blk {w w' : World} {base : Nat} {e : TypeId} {size : Nat} {v : Value} {n : Nat} {xs : List Value} (h : w.ownsRow base e size v n xs) (hb : ∀ k, v.ownBlock = some k → w'.heap[k]? = w.heap[k]?) : w'.ownsRow base e size v n xs := by
 obtain ⟨h1, h2⟩ := h
 refine ⟨h1, ?_⟩
 rcases h2 with h2 | ⟨g, cap, cur, hv, hg, hh, r⟩
 ·exact Or.inl h2
 ·exact Or.inr ⟨g, cap, cur, hv, hg, by rw [hb g (by rw [hv]; rfl)]; exact hh, r⟩
theorem app_own {P : Program} (w : World) {ops : Array Oper} {rest : List Oper} {o : Oper} {a : Act} {Q : Exit → Act → World → Prop} (hgd : o.guard = none)
  (s x : Operand) (t : TypeId) (ho : o.op = Op.call { callee := Callee.builtin Builtin.append, args := #[s, x], argTypes := #[t, t] }) (e : TypeId) (i : TypeInfo)
  (z : Value) (size bytes : Nat) (ht : P.underlying t = some (TypeDesc.slice e)) (hi : P.info? e = some i) (hz : i.zero = some z) (hsize : i.size = size) (hby : i.bytes = bytes)
  (hzs : z.cells.size = size) (hsz : 0 < size) (v : Value) (n : Nat) (xs : List Value) (hs : a.eval s = v) (hown : w.ownsRow 0 e size v n xs) (ad : Addr) (m c : Nat) (news : List Value)
  (hx : a.eval x = Value.slice (some ad) m c) (hl : news.length = m * size) (hnews : ∀ (j : Nat) (u : Value), news[j]? = some u → w.cell? (ad.add j) = some u)
  (h1 : ∀ (u : Value), u ∈ news → u.oneCell' = true) (hm : 0 < m) (h63 : n + m ≤ maxLen) (hbytes : (n + m) * bytes ≤ 140737488355328)
  (h : ∀ (g cap : Nat) (w' : World), w'.ownsRow 0 e size (.slice (some ⟨g, 0, none⟩) (n + m) cap) (n + m) (xs ++ news) → w.grownBy w' v.ownBlock →
   (v.ownBlock = some g ∨ w.heap.size ≤ g) → wpList P ops Q rest (a.put o.dst (.slice (some ⟨g, 0, none⟩) (n + m) cap)) w') :
  wpList P ops Q (o :: rest) a w := by
 have fin : ∀ (v' : Value) (w' : World), w'.ownsRow w.heap.size e size v' (n + m) (xs ++ news) → w.grownBy w' none → wpList P ops Q rest (a.put o.dst v') w' := by
  intro v' w' ho' hg'
  obtain ⟨g, cap, hv'⟩ : ∃ g cap, v' = .slice (some ⟨g, 0, none⟩) (n + m) cap := by
   rcases ho'.2 with ⟨_, hh⟩ | ⟨g, cap, cur, hv, _⟩
   ·omega
   ·exact ⟨_, _, hv⟩
  subst hv'
  have hlt := ho'.lt g rfl
  exact h g cap w' (owns_base ho' (fun k hk => Nat.zero_le _)) ⟨hg'.os, hg'.tape, hg'.output, hg'.size, fun k hk _ => hg'.block k hk (by simp)⟩ (Or.inr hlt.1)
 rcases hown.2 with ⟨hv, hn⟩ | ⟨g, cap, cur, hv, hg, hh, hn, hcm, hcs, htake⟩
 ·subst hn
  have hxs : xs = [] := List.length_eq_zero_iff.1 (by have := hown.1; omega)
  refine wpList_append_grows w hgd s x t ho e i z size bytes ht hi hz hsize hby hzs hsz none 0 0 xs (by rw [hs, hv]) (fun _ => ⟨rfl, rfl⟩) hown.1 (fun b hb => by cases hb) ad m c news hx hl hnews h1 (by omega) h63 hbytes fin
 ·by_cases hroom : n + m ≤ cap
  ·refine wpList_append_fits w hgd s x t ho 0 e i size ht hi hsize g n cap xs (by rw [hs, hv]) (by rw [hv] at hown; exact hown) ad m c news hx hl hnews h1 hroom ?_
   intro w' ho' hg'
   exact h g cap w' ho' (by rw [hv]; exact hg') (Or.inl (by rw [hv]; rfl))
  ·refine wpList_append_grows w hgd s x t ho e i z size bytes ht hi hz hsize hby hzs hsz (some ⟨g, 0, none⟩) n cap xs (by rw [hs, hv]) (fun hh => by cases hh) hown.1 ?_ ad m c news hx hl hnews h1 (by omega) h63 hbytes fin
   intro b hb j u hj
   simp only [Option.some.injEq] at hb
   subst hb
   exact hown.cells (by rw [hv]; rfl) j u hj
def ptr (b : Nat) : Value := .pointer (some ⟨b, 0, none⟩)
def numB : List UInt8 := [110, 117, 109, 98, 101, 114]
def nameB : List UInt8 := [110, 97, 109, 101]
theorem cntL_snoc (ts : List PT) (t : PT) : cntL (ts ++ [t]) = cntL ts + t.cnt := by
 induction ts with
 | nil => simp [cntL]
 | cons a r ih => simp [cntL, ih]; omega
theorem gr_set (w : World) (p : Addr) (u : Value) : w.grownBy (w.setCell p u) (some p.block) :=
 ⟨rfl, rfl, rfl, by simp [World.setCell], fun k _ hk => Below.heap_setCell _ _ _ _ (fun e => hk (by rw [e]))⟩
end Go.Proofs.YtpicaknklgccoabGreatDoor
namespace Go.Proofs.YtpicaknklgccoabGreatDoor
def cntE (l : List Wt) : Nat := (l.filter (· = .e)).length
mutual
theorem PE.used {placed : Bool} : ∀ {l : List Tk} {e : PT} {r : List Tk}, PE placed l e r → e.cnt + r.length ≤ l.length ∧ e.prs + r.length + 1 ≤ l.length
 | _, _, _, .num _ => by simp [PT.cnt, PT.prs]; omega
 | _, _, _, .name _ => by simp [PT.cnt, PT.prs]; omega
 | _, _, _, .node (k := k) _ _ _ h4 => by have := PW.used h4; simp [PT.cnt, PT.prs]; split <;> omega
theorem PW.used {placed : Bool} : ∀ {ws : List Wt} {l : List Tk} {nm rg : List UInt8} {kids : List PT} {r : List Tk}, PW placed ws l nm rg kids r → cntL kids + r.length ≤ l.length ∧ prsL kids + r.length ≤ l.length
 | _, _, _, _, _, _, .nil => by simp [cntL, prsL]
 | _, _, _, _, _, _, .close _ h1 => by have := PW.used h1; simp; omega
 | _, _, _, _, _, _, .name _ h1 => by have := PW.used h1; simp; omega
 | _, _, _, _, _, _, .region _ h1 => by have := PW.used h1; simp; omega
 | _, _, _, _, _, _, .e h h1 => by have := PE.used h; have := PW.used h1; simp only [cntL, prsL]; omega
end
theorem PE.suffix {placed : Bool} {l : List Tk} {e : PT} {r : List Tk} (h : PE placed l e r) : ∃ t r', l = t :: r' ∧ (t.c = .num ∨ t.c = .nam ∨ t.c = .opn) := by
 cases h with
 | num h => exact ⟨_, _, rfl, Or.inl h⟩
 | name h => exact ⟨_, _, rfl, Or.inr (Or.inl h)⟩
 | node h _ _ _ => exact ⟨_, _, rfl, Or.inr (Or.inr h)⟩
mutual
theorem PE.drop {placed : Bool} : ∀ {l : List Tk} {e : PT} {r : List Tk}, PE placed l e r → ∃ n, r = l.drop n ∧ n ≤ l.length
 | _, _, _, .num _ => ⟨1, by simp, by simp⟩
 | _, _, _, .name _ => ⟨1, by simp, by simp⟩
 | _, _, _, .node _ _ _ h4 => by obtain ⟨n, h, hn⟩ := PW.drop h4; exact ⟨n + 2, by simp [h], by simp; omega⟩
theorem PW.drop {placed : Bool} : ∀ {ws : List Wt} {l : List Tk} {nm rg : List UInt8} {kids : List PT} {r : List Tk}, PW placed ws l nm rg kids r → ∃ n, r = l.drop n ∧ n ≤ l.length
 | _, _, _, _, _, _, .nil => ⟨0, by simp, by simp⟩
 | _, _, _, _, _, _, .close _ h1 => by obtain ⟨n, h, hn⟩ := PW.drop h1; exact ⟨n + 1, by simp [h], by simp; omega⟩
 | _, _, _, _, _, _, .name _ h1 => by obtain ⟨n, h, hn⟩ := PW.drop h1; exact ⟨n + 1, by simp [h], by simp; omega⟩
 | _, _, _, _, _, _, .region _ h1 => by obtain ⟨n, h, hn⟩ := PW.drop h1; exact ⟨n + 1, by simp [h], by simp; omega⟩
 | _, _, _, _, _, _, .e h h1 => by
  obtain ⟨n, hr, hn⟩ := PE.drop h
  obtain ⟨m, hr', hm⟩ := PW.drop h1
  refine ⟨n + m, by rw [hr', hr, List.drop_drop], ?_⟩
  rw [hr] at hm; simp at hm; omega
end
end Go.Proofs.YtpicaknklgccoabGreatDoor
namespace Go.Proofs.YtpicaknklgccoabGreatDoor
open Go.Lib (decDigits)
inductive Ty where
 | n
 | p (r : Nat) (a b : Ty)
 deriving DecidableEq
def Ty.txt : Ty → List UInt8
 | .n => [110]
 | .p r a b => 60 :: (decDigits r ++ 58 :: (a.txt ++ (b.txt ++ [62])))
def Ty.size : Ty → Nat
 | .n => 0
 | .p _ a b => a.size + b.size + 1
def Ty.bare : Ty → Ty
 | .n => .n
 | .p _ a b => .p 0 a.bare b.bare
def digitB (c : UInt8) : Bool := decide (48 ≤ c.toNat) && decide (c.toNat ≤ 57)
theorem dec_digit (u : Nat) : ∀ c ∈ decDigits u, digitB c = true := by
 induction u using Nat.strongRecOn with
 | _ u ih =>
  rw [decDigits]
  have key : ∀ k, k < 10 → digitB (UInt8.ofNat (48 + k)) = true := by
   intro k hk
   unfold digitB
   have : (UInt8.ofNat (48 + k)).toNat = 48 + k := by simp; omega
   rw [this]; simp; omega
  split
  ·intro c hc; rw [List.mem_singleton] at hc; subst hc; exact key u (by omega)
  ·intro c hc
   rw [List.mem_append] at hc
   rcases hc with hc | hc
   ·exact ih (u / 10) (by omega) c hc
   ·rw [List.mem_singleton] at hc; subst hc; exact key _ (by omega)
end Go.Proofs.YtpicaknklgccoabGreatDoor
namespace Go.Proofs.YtpicaknklgccoabGreatDoor
open Go.RowKit
open Go.Lib (decDigits)
theorem bs_beq0 (l m : List UInt8) : ((bs l).toList == m) = (l == m) := by rw [Lib.toList_data]; rfl
theorem txt_len (r : Nat) (a b : Ty) : (Ty.p r a b).txt.length = (decDigits r).length + a.txt.length + b.txt.length + 3 := by
 simp [Ty.txt]; omega
theorem bs_app (l m : List UInt8) : bs l ++ bs m = bs (l ++ m) := by
 apply bs_eq; simp [bs]
end Go.Proofs.YtpicaknklgccoabGreatDoor
namespace Go.Proofs.YtpicaknklgccoabGreatDoor
def Ty.regs : Ty → Prop
 | .n => True
 | .p r a b => r < 1000 ∧ a.regs ∧ b.regs
def Ty.fit (t : Ty) : Prop := t.size ≤ 127 ∧ t.regs
structure TSt where
 e : Nat
 at_ : Nat
 of : List (List UInt8)
abbrev TEnv := List (List UInt8 × Ty)
def look (env : TEnv) (s : List UInt8) : Option Ty := (env.reverse.find? (fun x => x.1 == s)).map (·.2)
def errS (st : TSt) (e p : Nat) : TSt := if st.e = 0 then { st with e := e, at_ := p } else st
def fin (id p : Nat) (x : Ty × TSt) : Ty × TSt :=
 let st := if x.2.e = 0 ∧ 63 < x.1.size then errS x.2 6 p else x.2
 (x.1, { st with of := st.of.set id x.1.txt })
def madeT (cls : List Nat) (k : Kw) (p site : Nat) (ks : List Ty) (st : TSt) : Ty × TSt :=
 match k, ks with
 | .new, a :: _ => (a, st)
 | .pair, [a, b] => (.p (cls.getD site 0) a b, st)
 | .fst, .p _ a _ :: _ => (a, st)
 | .snd, .p _ _ b :: _ => (b, st)
 | .if_, [a, b, c] => if a = .n ∧ b.bare = c.bare then (b, st) else (.n, errS st 5 p)
 | .loop, [a, b, c] => if a = .n ∧ b.bare = c.bare then (b, st) else (.n, errS st 5 p)
 | .add, [a, b] => if a = .n ∧ b = .n then (.n, st) else (.n, errS st 5 p)
 | .sub, [a, b] => if a = .n ∧ b = .n then (.n, st) else (.n, errS st 5 p)
 | .less, [a, b] => if a = .n ∧ b = .n then (.n, st) else (.n, errS st 5 p)
 | _, _ => (.n, errS st 5 p)
mutual
def tyFind (cls : List Nat) : PT → Nat → Nat → TEnv → TSt → Ty × TSt
 | .num p _, id, _, _, st => fin id p (.n, st)
 | .name p s, id, _, env, st => fin id p (match look env s with
  | some t => (t, st)
  | none => (.n, errS st 4 p))
 | .node p k nm _ kids, id, site, env, st =>
  fin id p (if k = .let_ then tyLet cls nm kids (id + 1) site env st
   else
    let x := if k = .loop then tyLoop cls nm kids (id + 1) site env st else tyKids cls kids (id + 1) (site + if k = .pair then 1 else 0) env st
    if x.2.e ≠ 0 then (.n, x.2) else madeT cls k p site x.1 x.2)
def tyKids (cls : List Nat) : List PT → Nat → Nat → TEnv → TSt → List Ty × TSt
 | [], _, _, _, st => ([], st)
 | a :: r, id, site, env, st =>
  let x := tyFind cls a id site env st
  let y := tyKids cls r (id + a.cnt) (site + a.prs) env x.2
  (x.1 :: y.1, y.2)
def tyLet (cls : List Nat) (nm : List UInt8) : List PT → Nat → Nat → TEnv → TSt → Ty × TSt
 | [a, b], id, site, env, st =>
  let x := tyFind cls a id site env st
  tyFind cls b (id + a.cnt) (site + a.prs) (env ++ [(nm, x.1)]) x.2
 | _, _, _, _, st => (.n, st)
def tyLoop (cls : List Nat) (nm : List UInt8) : List PT → Nat → Nat → TEnv → TSt → List Ty × TSt
 | [a, b, c], id, site, env, st =>
  let x := tyFind cls a id site env st
  let y := tyFind cls b (id + a.cnt) (site + a.prs) env x.2
  let z := tyFind cls c (id + a.cnt + b.cnt) (site + a.prs + b.prs) (env ++ [(nm, y.1)]) y.2
  ([x.1, y.1, z.1], z.2)
 | _, _, _, _, st => ([], st)
end
end Go.Proofs.YtpicaknklgccoabGreatDoor
namespace Go.Proofs.YtpicaknklgccoabGreatDoor
open Go.RowKit
open Go.Lib (decDigits)
mutual
theorem PT.ind {P : PT → Prop} (h1 : ∀ p s, P (.num p s)) (h2 : ∀ p s, P (.name p s)) (h3 : ∀ p k nm rg kids, (∀ x ∈ kids, P x) → P (.node p k nm rg kids)) : ∀ t, P t
 | .num p s => h1 p s
 | .name p s => h2 p s
 | .node p k nm rg kids => h3 p k nm rg kids (PT.indL h1 h2 h3 kids)
theorem PT.indL {P : PT → Prop} (h1 : ∀ p s, P (.num p s)) (h2 : ∀ p s, P (.name p s)) (h3 : ∀ p k nm rg kids, (∀ x ∈ kids, P x) → P (.node p k nm rg kids)) : ∀ l : List PT, ∀ x ∈ l, P x
 | [] => fun x hx => by simp at hx
 | t :: r => fun x hx => by
  have ht := PT.ind h1 h2 h3 t
  have hr := PT.indL h1 h2 h3 r
  rcases List.mem_cons.1 hx with h | h
  ·rw [h]; exact ht
  ·exact hr x h
end
structure Rec where
 op : List UInt8
 p : Nat
 nm : List UInt8
 n : Int
 id : Nat
 last : Nat
 site : Nat
mutual
def PT.recs : PT → Nat → Nat → List Rec
 | .num p s, id, site => [⟨numB, p, [], valueL s, id, id, site⟩]
 | .name p s, id, site => [⟨nameB, p, s, 0, id, id, site⟩]
 | .node p k nm rg kids, id, site => recsL kids (id + 1) (site + if k = .pair then 1 else 0) ++ [⟨k.bytes, p, nm, valueL rg, id, id + cntL kids, site⟩]
def recsL : List PT → Nat → Nat → List Rec
 | [], _, _ => []
 | t :: r, id, site => t.recs id site ++ recsL r (id + t.cnt) (site + t.prs)
end
mutual
theorem recs_len : ∀ (t : PT) (id site : Nat), (t.recs id site).length = t.cnt
 | .num _ _, _, _ => rfl
 | .name _ _, _, _ => rfl
 | .node _ _ _ _ kids, id, site => by simp [PT.recs, PT.cnt, recsL_len kids]; omega
theorem recsL_len : ∀ (ts : List PT) (id site : Nat), (recsL ts id site).length = cntL ts
 | [], _, _ => rfl
 | t :: r, id, site => by simp [recsL, cntL, recs_len t, recsL_len r]
end
theorem cnt_pos (t : PT) : 0 < t.cnt := by cases t <;> simp [PT.cnt] <;> omega
theorem cntL_take (ts : List PT) (i : Nat) : cntL (ts.take i) ≤ cntL ts := by
 induction ts generalizing i with
 | nil => simp
 | cons a r ih => cases i with
  | zero => simp [cntL]
  | succ i => have := ih i; simp [cntL]; omega
def apart (u v : Value) : Prop := ∀ g, u.ownBlock = some g → v.ownBlock ≠ some g
theorem apart.symm {u v : Value} (h : apart u v) : apart v u := fun g hg hu => h g hu hg
def PT.pl : PT → Nat
 | .num p _ => p
 | .name p _ => p
 | .node p _ _ _ _ => p
end Go.Proofs.YtpicaknklgccoabGreatDoor
namespace Go.Proofs.YtpicaknklgccoabGreatDoor
open Go.RowKit
theorem look_snoc (env : TEnv) (x : List UInt8 × Ty) (s : List UInt8) : look (env ++ [x]) s = if x.1 == s then some x.2 else look env s := by
 unfold look
 rw [List.reverse_append, List.reverse_singleton, List.singleton_append, List.find?_cons]
 cases h : (x.1 == s) <;> simp
def arity (k : Kw) : Nat := match k with
 | .let_ => 2
 | .pair => 2
 | .fst => 1
 | .snd => 1
 | .if_ => 3
 | .add => 2
 | .sub => 2
 | .less => 2
 | .loop => 3
 | .new => 1
end Go.Proofs.YtpicaknklgccoabGreatDoor
namespace Go.Proofs.YtpicaknklgccoabGreatDoor
def envOk (env : TEnv) (st : TSt) : Prop := (∀ x ∈ env, x.2.fit) ∧ (st.e = 0 → ∀ x ∈ env, x.2.size ≤ 63)
def resOk (st : TSt) (x : Ty × TSt) : Prop := x.1.fit ∧ (x.2.e = 0 → st.e = 0 ∧ x.1.size ≤ 63) ∧ x.2.of.length = st.of.length
def preOk (st : TSt) (x : Ty × TSt) : Prop := x.1.fit ∧ (x.2.e = 0 → st.e = 0) ∧ x.2.of.length = st.of.length
theorem fit_n : Ty.n.fit := ⟨by simp [Ty.size], trivial⟩
theorem errS_len (st : TSt) (e p : Nat) : (errS st e p).of.length = st.of.length := by unfold errS; split <;> rfl
theorem errS_e (st : TSt) (e p : Nat) (he : e ≠ 0) : (errS st e p).e ≠ 0 := by unfold errS; split <;> simp_all
theorem fin_ok {id p : Nat} {st : TSt} {x : Ty × TSt} (h : preOk st x) : resOk st (fin id p x) := by
 obtain ⟨h1, h2, h3⟩ := h
 unfold resOk
 by_cases hb : x.2.e = 0 ∧ 63 < x.1.size
 ·have e : fin id p x = (x.1, { (errS x.2 6 p) with of := (errS x.2 6 p).of.set id x.1.txt }) := by simp only [fin]; rw [if_pos hb]
  rw [e]
  refine ⟨h1, fun h0 => absurd h0 (errS_e _ _ _ (by decide)), ?_⟩
  simp only [List.length_set]; rw [errS_len]; exact h3
 ·have e : fin id p x = (x.1, { x.2 with of := x.2.of.set id x.1.txt }) := by simp only [fin]; rw [if_neg hb]
  rw [e]
  refine ⟨h1, fun h0 => ⟨h2 h0, ?_⟩, by simp only [List.length_set]; exact h3⟩
  simp only at h0 ⊢
  exact Nat.le_of_not_lt (fun h => hb ⟨h0, h⟩)
theorem look_mem {env : TEnv} {s : List UInt8} {t : Ty} (h : look env s = some t) : ∃ x ∈ env, x.2 = t := by
 unfold look at h
 rw [Option.map_eq_some_iff] at h
 obtain ⟨x, hx, rfl⟩ := h
 exact ⟨x, by have := List.mem_of_find?_eq_some hx; simpa using this, rfl⟩
theorem made_pre {cls : List Nat} {k : Kw} {p site : Nat} {ks : List Ty} {st : TSt} (hc : ∀ x ∈ cls, x < 1000) (hk : ∀ t ∈ ks, t.fit ∧ t.size ≤ 63) : preOk st (madeT cls k p site ks st) := by
 have hr : cls.getD site 0 < 1000 := by
  rw [List.getD_eq_getElem?_getD]
  cases h : cls[site]? with
  | none => simp
  | some x => exact hc x (List.mem_of_getElem? h)
 have err : preOk st (Ty.n, errS st 5 p) := ⟨fit_n, fun h => absurd h (errS_e _ _ _ (by decide)), errS_len _ _ _⟩
 unfold madeT
 split
 ·rename_i a _; exact ⟨(hk a (by simp)).1, fun h => h, rfl⟩
 ·rename_i a b
  have ha := hk a (by simp)
  have hb := hk b (by simp)
  exact ⟨⟨by simp only [Ty.size]; omega, ⟨hr, ha.1.2, hb.1.2⟩⟩, fun h => h, rfl⟩
 ·rename_i r a b _
  have ha := hk (.p r a b) (by simp)
  exact ⟨⟨by show a.size ≤ 127; have := ha.2; simp only [Ty.size] at this; omega, ha.1.2.2.1⟩, fun h => h, rfl⟩
 ·rename_i r a b _
  have ha := hk (.p r a b) (by simp)
  exact ⟨⟨by show b.size ≤ 127; have := ha.2; simp only [Ty.size] at this; omega, ha.1.2.2.2⟩, fun h => h, rfl⟩
 ·rename_i a b c
  split
  ·exact ⟨(hk b (by simp)).1, fun h => h, rfl⟩
  ·exact err
 ·rename_i a b c
  split
  ·exact ⟨(hk b (by simp)).1, fun h => h, rfl⟩
  ·exact err
 ·split
  ·exact ⟨fit_n, fun h => h, rfl⟩
  ·exact err
 ·split
  ·exact ⟨fit_n, fun h => h, rfl⟩
  ·exact err
 ·split
  ·exact ⟨fit_n, fun h => h, rfl⟩
  ·exact err
 ·exact err
theorem envOk.on {env : TEnv} {st st' : TSt} (h : envOk env st) (hs : st'.e = 0 → st.e = 0) : envOk env st' := ⟨h.1, fun h0 => h.2 (hs h0)⟩
theorem envOk.snoc {env : TEnv} {st : TSt} {nm : List UInt8} {x : Ty × TSt} (h : envOk env st) (hx : resOk st x) : envOk (env ++ [(nm, x.1)]) x.2 := by
 constructor
 ·intro y hy
  rcases List.mem_append.1 hy with hy | hy
  ·exact h.1 y hy
  ·rw [List.mem_singleton] at hy; subst hy; exact hx.1
 ·intro h0 y hy
  rcases List.mem_append.1 hy with hy | hy
  ·exact h.2 (hx.2.1 h0).1 y hy
  ·rw [List.mem_singleton] at hy; subst hy; exact (hx.2.1 h0).2
def ksOk (st : TSt) (x : List Ty × TSt) : Prop := (∀ t ∈ x.1, t.fit) ∧ (x.2.e = 0 → st.e = 0 ∧ ∀ t ∈ x.1, t.size ≤ 63) ∧ x.2.of.length = st.of.length
mutual
theorem tyFind_ok (cls : List Nat) (hc : ∀ x ∈ cls, x < 1000) : ∀ (t : PT) (id site : Nat) (env : TEnv) (st : TSt), envOk env st → resOk st (tyFind cls t id site env st)
 | .num p s, id, site, env, st, h => by simp only [tyFind]; exact fin_ok ⟨fit_n, fun h => h, rfl⟩
 | .name p s, id, site, env, st, h => by
  simp only [tyFind]
  refine fin_ok ?_
  split
  ·rename_i t ht
   obtain ⟨x, hx, rfl⟩ := look_mem ht
   exact ⟨h.1 x hx, fun h => h, rfl⟩
  ·exact ⟨fit_n, fun h => absurd h (errS_e _ _ _ (by decide)), errS_len _ _ _⟩
 | .node p k nm rg kids, id, site, env, st, h => by
  simp only [tyFind]
  refine fin_ok ?_
  split
  ·have := tyLet_ok cls hc nm kids (id + 1) site env st h
   exact ⟨this.1, fun h0 => (this.2.1 h0), this.2.2⟩
  ·have hx : ksOk st (if k = .loop then tyLoop cls nm kids (id + 1) site env st else tyKids cls kids (id + 1) (site + if k = .pair then 1 else 0) env st) := by
    split
    ·exact tyLoop_ok cls hc nm kids _ _ env st h
    ·exact tyKids_ok cls hc kids _ _ env st h
   generalize (if k = .loop then tyLoop cls nm kids (id + 1) site env st else tyKids cls kids (id + 1) (site + if k = .pair then 1 else 0) env st) = x at hx
   split
   ·rename_i hne
    exact ⟨fit_n, fun h0 => absurd h0 hne, hx.2.2⟩
   ·rename_i hne
    have h0 : x.2.e = 0 := by simpa using hne
    have hm := made_pre (k := k) (p := p) (site := site) (st := x.2) hc (fun t ht => ⟨hx.1 t ht, (hx.2.1 h0).2 t ht⟩)
    exact ⟨hm.1, fun h1 => (hx.2.1 (hm.2.1 h1)).1, hm.2.2.trans hx.2.2⟩
theorem tyKids_ok (cls : List Nat) (hc : ∀ x ∈ cls, x < 1000) : ∀ (ts : List PT) (id site : Nat) (env : TEnv) (st : TSt), envOk env st → ksOk st (tyKids cls ts id site env st)
 | [], _, _, _, st, _ => by simp only [tyKids]; exact ⟨by simp, fun h => ⟨h, by simp⟩, rfl⟩
 | a :: r, id, site, env, st, h => by
  simp only [tyKids]
  have h1 := tyFind_ok cls hc a id site env st h
  have h2 := tyKids_ok cls hc r (id + a.cnt) (site + a.prs) env (tyFind cls a id site env st).2 (h.on (fun h0 => (h1.2.1 h0).1))
  refine ⟨?_, ?_, h2.2.2.trans h1.2.2⟩
  ·intro t ht
   rcases List.mem_cons.1 ht with rfl | ht
   ·exact h1.1
   ·exact h2.1 t ht
  ·intro h0
   have q := h2.2.1 h0
   have q1 := h1.2.1 q.1
   refine ⟨q1.1, ?_⟩
   intro t ht
   rcases List.mem_cons.1 ht with rfl | ht
   ·exact q1.2
   ·exact q.2 t ht
theorem tyLet_ok (cls : List Nat) (hc : ∀ x ∈ cls, x < 1000) (nm : List UInt8) : ∀ (ts : List PT) (id site : Nat) (env : TEnv) (st : TSt), envOk env st → preOk st (tyLet cls nm ts id site env st)
 | [a, b], id, site, env, st, h => by
  simp only [tyLet]
  have h1 := tyFind_ok cls hc a id site env st h
  have h2 := tyFind_ok cls hc b (id + a.cnt) (site + a.prs) (env ++ [(nm, (tyFind cls a id site env st).1)]) (tyFind cls a id site env st).2 (h.snoc h1)
  exact ⟨h2.1, fun h0 => (h1.2.1 (h2.2.1 h0).1).1, h2.2.2.trans h1.2.2⟩
 | [], _, _, _, st, _ => by simp only [tyLet]; exact ⟨fit_n, fun h => h, rfl⟩
 | [_], _, _, _, st, _ => by simp only [tyLet]; exact ⟨fit_n, fun h => h, rfl⟩
 | _ :: _ :: _ :: _, _, _, _, st, _ => by simp only [tyLet]; exact ⟨fit_n, fun h => h, rfl⟩
theorem tyLoop_ok (cls : List Nat) (hc : ∀ x ∈ cls, x < 1000) (nm : List UInt8) : ∀ (ts : List PT) (id site : Nat) (env : TEnv) (st : TSt), envOk env st → ksOk st (tyLoop cls nm ts id site env st)
 | [a, b, c], id, site, env, st, h => by
  simp only [tyLoop]
  have h1 := tyFind_ok cls hc a id site env st h
  have h2 := tyFind_ok cls hc b (id + a.cnt) (site + a.prs) env (tyFind cls a id site env st).2 (h.on (fun h0 => (h1.2.1 h0).1))
  have h3 := tyFind_ok cls hc c (id + a.cnt + b.cnt) (site + a.prs + b.prs) (env ++ [(nm, (tyFind cls b (id + a.cnt) (site + a.prs) env (tyFind cls a id site env st).2).1)]) (tyFind cls b (id + a.cnt) (site + a.prs) env (tyFind cls a id site env st).2).2 ((h.on (fun h0 => (h1.2.1 h0).1)).snoc h2)
  refine ⟨?_, ?_, h3.2.2.trans (h2.2.2.trans h1.2.2)⟩
  ·intro t ht
   simp only [List.mem_cons, List.not_mem_nil, or_false] at ht
   rcases ht with rfl | rfl | rfl
   ·exact h1.1
   ·exact h2.1
   ·exact h3.1
  ·intro h0
   have q3 := h3.2.1 h0
   have q2 := h2.2.1 q3.1
   have q1 := h1.2.1 q2.1
   refine ⟨q1.1, ?_⟩
   intro t ht
   simp only [List.mem_cons, List.not_mem_nil, or_false] at ht
   rcases ht with rfl | rfl | rfl
   ·exact q1.2
   ·exact q2.2
   ·exact q3.2
 | [], _, _, _, st, _ => by simp only [tyLoop]; exact ⟨by simp, fun h => ⟨h, by simp⟩, rfl⟩
 | [_], _, _, _, st, _ => by simp only [tyLoop]; exact ⟨by simp, fun h => ⟨h, by simp⟩, rfl⟩
 | [_, _], _, _, _, st, _ => by simp only [tyLoop]; exact ⟨by simp, fun h => ⟨h, by simp⟩, rfl⟩
 | _ :: _ :: _ :: _ :: _, _, _, _, st, _ => by simp only [tyLoop]; exact ⟨by simp, fun h => ⟨h, by simp⟩, rfl⟩
end
theorem toks_mem : ∀ (f p : Nat) (l : List UInt8) (t : Tk), t ∈ toks f p l → ∃ l', l' ≠ [] ∧ t.s = l'.take (tokenOf l').1 ∧ t.c = (tokenOf l').2
 | 0, _, _, t, h => by simp [toks] at h
 | _ + 1, _, [], t, h => by simp [toks] at h
 | f + 1, p, c :: r, t, h => by
  simp only [toks] at h
  split at h
  ·exact toks_mem f _ r t h
  ·rcases List.mem_cons.1 h with h | h
   ·subst h; exact ⟨c :: r, by simp, rfl, rfl⟩
   ·exact toks_mem f _ _ t h
theorem PW.kids_len {placed : Bool} : ∀ {ws : List Wt} {l : List Tk} {nm rg : List UInt8} {kids : List PT} {r : List Tk}, PW placed ws l nm rg kids r → kids.length = cntE ws
 | _, _, _, _, _, _, .nil => rfl
 | _, _, _, _, _, _, .close _ h1 => by have := PW.kids_len h1; simpa [cntE] using this
 | _, _, _, _, _, _, .name _ h1 => by have := PW.kids_len h1; simpa [cntE] using this
 | _, _, _, _, _, _, .region _ h1 => by have := PW.kids_len h1; simpa [cntE] using this
 | _, _, _, _, _, _, .e _ h1 => by have := PW.kids_len h1; simp [cntE] at this ⊢; exact this
end Go.Proofs.YtpicaknklgccoabGreatDoor
namespace Go.Proofs.YtpicaknklgccoabGreatDoor
open Go.RowKit
mutual
def PT.wf : PT → Prop
 | .num _ _ => True
 | .name _ _ => True
 | .node _ k _ _ kids => kids.length = arity k ∧ wfL kids
def wfL : List PT → Prop
 | [] => True
 | t :: r => t.wf ∧ wfL r
end
end Go.Proofs.YtpicaknklgccoabGreatDoor
namespace Go.Proofs.YtpicaknklgccoabGreatDoor
open Go.RowKit
open Go.Lib (decDigits)
def pieceT (k : Kw) (nm : List UInt8) (i : Nat) (x : List UInt8) : List UInt8 := (if (k = .let_ ∧ i = 0) ∨ (k = .loop ∧ i = 1) then 32 :: nm else []) ++ (32 :: x)
def joinT (k : Kw) (nm : List UInt8) : Nat → List (List UInt8) → List UInt8
 | _, [] => []
 | i, x :: r => pieceT k nm i x ++ joinT k nm (i + 1) r
theorem joinT_snoc (k : Kw) (nm : List UInt8) (x : List UInt8) : ∀ (l : List (List UInt8)) (i : Nat), joinT k nm i (l ++ [x]) = joinT k nm i l ++ pieceT k nm (i + l.length) x
 | [], i => by simp [joinT]
 | y :: r, i => by
  simp only [List.cons_append, joinT, joinT_snoc k nm x r (i + 1), List.append_assoc, List.length_cons]
  rw [show i + 1 + r.length = i + (r.length + 1) from by omega]
mutual
def PT.tame : PT → Prop
 | .num _ s => 0 ≤ valueL s ∧ valueL s ≤ 9999
 | .name _ s => s.length ≤ 9000
 | .node _ _ nm _ kids => nm.length ≤ 9000 ∧ tameL kids
def tameL : List PT → Prop
 | [] => True
 | t :: r => t.tame ∧ tameL r
end
theorem run_memT (lo hi : Int) : ∀ (l : List UInt8) (c : UInt8), c ∈ l.take (run lo hi l) → inB lo hi c = true
 | [], c, h => by simp at h
 | d :: r, c, h => by
  simp only [run] at h
  split at h
  ·rename_i hd
   rw [List.take_succ_cons, List.mem_cons] at h
   rcases h with h | h
   ·rw [h]; exact hd
   ·exact run_memT lo hi r c h
  ·simp at h
theorem dig_fold : ∀ (l : List UInt8) (a : Int), (∀ c ∈ l, inB 48 57 c = true) → 0 ≤ a →
  0 ≤ l.foldl (fun n c => if c = 35 then n else 10 * n + (c.toNat : Int) - 48) a ∧ l.foldl (fun n c => if c = 35 then n else 10 * n + (c.toNat : Int) - 48) a ≤ (a + 1) * ((10 ^ l.length : Nat) : Int) - 1
 | [], a, _, h => by simp; omega
 | c :: r, a, hd, h => by
  have hc := hd c (by simp)
  simp only [inB, Bool.and_eq_true, decide_eq_true_eq] at hc
  have h35 : c ≠ 35 := by intro e; subst e; simp at hc
  have ih := dig_fold r (10 * a + (c.toNat : Int) - 48) (fun x hx => hd x (by simp [hx])) (by omega)
  simp only [List.foldl_cons, if_neg h35, List.length_cons]
  refine ⟨ih.1, Int.le_trans ih.2 ?_⟩
  have e : ((10 ^ (r.length + 1) : Nat) : Int) = 10 * ((10 ^ r.length : Nat) : Int) := by rw [Nat.pow_succ]; omega
  rw [e]
  have hp : (0 : Int) ≤ ((10 ^ r.length : Nat) : Int) := Int.natCast_nonneg _
  have h2 : (10 * a + (c.toNat : Int) - 48 + 1) ≤ (a + 1) * 10 := by omega
  have h3 := Int.mul_le_mul_of_nonneg_right h2 hp
  rw [Int.mul_assoc] at h3
  omega
def TkTame (t : Tk) : Prop := (t.c = .num → 0 ≤ valueL t.s ∧ valueL t.s ≤ 9999) ∧ (t.c = .nam → t.s.length ≤ 9000)
theorem tok_tame (l : List UInt8) : ((tokenOf l).2 = .num → 0 ≤ valueL (l.take (tokenOf l).1) ∧ valueL (l.take (tokenOf l).1) ≤ 9999) ∧ ((tokenOf l).2 = .nam → (tokenOf l).1 ≤ 9000) := by
 unfold tokenOf
 split
 ·refine ⟨fun h => ?_, fun h => ?_⟩
  ·simp only [wordCl] at h
   split at h
   ·simp at h
   ·split at h <;> simp at h
  ·simp only [wordCl] at h
   split at h
   ·simp at h
   ·split at h
    ·simp only; omega
    ·simp at h
 ·split
  ·refine ⟨fun h => ?_, fun h => ?_⟩
   ·simp only at h
    split at h
    ·rename_i hn
     simp only [numeralB, Bool.and_eq_true, decide_eq_true_eq] at hn
     have hf := dig_fold (l.take (run 48 57 l)) 0 (fun c hc => run_memT 48 57 l c hc) (by omega)
     have hp : 10 ^ (l.take (run 48 57 l)).length ≤ 10 ^ 4 := Nat.pow_le_pow_right (by omega) hn.1.2
     unfold valueL
     simp only
     omega
    ·simp at h
   ·simp only at h
    split at h <;> simp at h
  ·split
   ·simp
   ·split
    ·refine ⟨fun h => ?_, fun h => ?_⟩ <;> (simp only at h; split at h <;> simp at h)
    ·refine ⟨fun h => ?_, fun _ => by simp⟩
     simp only at h
     split at h
     ·simp at h
     ·split at h <;> simp at h
theorem tokens_tame (l : List UInt8) : ∀ t ∈ tokens l, TkTame t := by
 intro t ht
 obtain ⟨l', _, hs, hc⟩ := toks_mem _ _ _ t ht
 have h := tok_tame l'
 unfold TkTame
 rw [hs, hc]
 exact ⟨h.1, fun e => by have := h.2 e; simp; omega⟩
mutual
theorem PE.tame {placed : Bool} : ∀ {l : List Tk} {e : PT} {r : List Tk}, PE placed l e r → (∀ t ∈ l, TkTame t) → e.tame ∧ ∀ t ∈ r, TkTame t
 | _, _, _, .num (t := t) h, ha => ⟨by simp only [PT.tame]; exact (ha t (by simp)).1 h, fun x hx => ha x (by simp [hx])⟩
 | _, _, _, .name (t := t) h, ha => ⟨by simp only [PT.tame]; exact (ha t (by simp)).2 h, fun x hx => ha x (by simp [hx])⟩
 | _, _, _, .node _ _ _ h4, ha => by
  have h := PW.tame h4 (fun x hx => ha x (by simp [hx]))
  exact ⟨by simp only [PT.tame]; exact ⟨h.1, h.2.1⟩, h.2.2⟩
theorem PW.tame {placed : Bool} : ∀ {ws : List Wt} {l : List Tk} {nm rg : List UInt8} {kids : List PT} {r : List Tk}, PW placed ws l nm rg kids r → (∀ t ∈ l, TkTame t) → nm.length ≤ 9000 ∧ tameL kids ∧ ∀ t ∈ r, TkTame t
 | _, _, _, _, _, _, .nil, ha => ⟨by simp, by simp [tameL], ha⟩
 | _, _, _, _, _, _, .close _ h1, ha => PW.tame h1 (fun x hx => ha x (by simp [hx]))
 | _, _, _, _, _, _, .name (t := t) h h1, ha => by
  have h' := PW.tame h1 (fun x hx => ha x (by simp [hx]))
  exact ⟨(ha t (by simp)).2 h, h'.2⟩
 | _, _, _, _, _, _, .region _ h1, ha => PW.tame h1 (fun x hx => ha x (by simp [hx]))
 | _, _, _, _, _, _, .e h0 h1, ha => by
  have a := PE.tame h0 ha
  have b := PW.tame h1 a.2
  exact ⟨b.1, by simp only [tameL]; exact ⟨a.1, b.2.1⟩, b.2.2⟩
end
end Go.Proofs.YtpicaknklgccoabGreatDoor
namespace Go.Proofs.YtpicaknklgccoabGreatDoor
open Go.RowKit Go.Shelf Go.Sort
open Go.Lib (decDigits)
def ItoaOk (w0 : World) : Prop := ∀ (n : Nat) (w : World), n ≤ 9999 → Below w0.heap.size w0 w → Calls Tryz.prog 24 #[.int .i64 n] w fun e w' => e = .returned (.string (bs (decDigits n))) ∧ Below w.heap.size w w'
shelf_lay LaysM.n171 Nm 171 at Tryz as Tryz.laysM171
theorem itoa_ok (w0 : World) (htab : Lib.TabIs Tryz.prog w0 "internal/strconv.uint64pow10" .u64 Lib.pow10Tab) : ItoaOk w0 := by
 intro n w hn hb
 refine (Any.strconv_Itoa Tryz.laysM171 (n : Int) (by omega) (by omega) w (Lib.tabBelow_of_tabIs htab w hb)).mono ?_
 rintro e w' ⟨rfl, k, os, rfl⟩
 refine ⟨?_, Lib.below_grow _ _ (Nat.le_refl _) k os⟩
 have e1 : Lib.itoa (n : Int) = decDigits n := by
  unfold Lib.itoa; rw [if_neg (by omega)]; rfl
 rw [e1]; rfl
end Go.Proofs.YtpicaknklgccoabGreatDoor
namespace Go.Proofs.YtpicaknklgccoabGreatDoor
open Go.RowKit
mutual
def PT.prl : PT → List (Nat × List UInt8)
 | .num _ _ => []
 | .name _ _ => []
 | .node p k _ rg kids => (if k = .pair then [(p, rg)] else []) ++ prlL kids
def prlL : List PT → List (Nat × List UInt8)
 | [] => []
 | t :: r => t.prl ++ prlL r
end
mutual
theorem prl_len : ∀ t : PT, t.prl.length = t.prs
 | .num _ _ => rfl
 | .name _ _ => rfl
 | .node _ k _ _ kids => by simp only [PT.prl, PT.prs, List.length_append, prlL_len kids]; split <;> rfl
theorem prlL_len : ∀ ts : List PT, (prlL ts).length = prsL ts
 | [] => rfl
 | t :: r => by simp only [prlL, prsL, List.length_append, prl_len t, prlL_len r]
end
def st0 (t : PT) : TSt := ⟨0, 0, List.replicate t.cnt []⟩
mutual
theorem PE.wf {placed : Bool} : ∀ {l : List Tk} {e : PT} {r : List Tk}, PE placed l e r → e.wf
 | _, _, _, .num _ => by simp [PT.wf]
 | _, _, _, .name _ => by simp [PT.wf]
 | _, _, _, .node (k := k) _ _ h3 h4 => by
  simp only [PT.wf]
  refine ⟨?_, PW.wfl h4⟩
  rw [PW.kids_len h4]
  cases k <;> cases placed <;> first | decide | exact absurd rfl h3
theorem PW.wfl {placed : Bool} : ∀ {ws : List Wt} {l : List Tk} {nm rg : List UInt8} {kids : List PT} {r : List Tk}, PW placed ws l nm rg kids r → wfL kids
 | _, _, _, _, _, _, .nil => by simp [wfL]
 | _, _, _, _, _, _, .close _ h1 => PW.wfl h1
 | _, _, _, _, _, _, .name _ h1 => PW.wfl h1
 | _, _, _, _, _, _, .region _ h1 => PW.wfl h1
 | _, _, _, _, _, _, .e h h1 => by simp only [wfL]; exact ⟨PE.wf h, PW.wfl h1⟩
end
theorem Tryz.infoInt : (Tryz.prog.info? 3).map (fun i => (i.zero, i.size, i.bytes)) = some (some (.int .i64 0), 1, 8) := by kernel_rfl
theorem Tryz.undInts : Tryz.prog.underlying 22 = some (.slice 3) := by kernel_rfl
theorem Study_len {s : ByteArray} {placed : Bool} {e : PT} (hp : PE placed (tokens s.data.toList) e []) : e.cnt ≤ s.size := by
 have h1 := hp.used.1
 have h2 := toks_len s.data.toList.length 0 s.data.toList
 rw [size_list] at h2
 unfold tokens at h1
 rw [size_list] at h1
 simp at h1
 omega
def chkAns (e : PT) : Nat × Nat :=
 if 100 < e.prs then (3, ((e.prl[100]?).map (·.1)).getD 0)
 else ((tyFind (List.range e.prs) e 0 0 [] (st0 e)).2.e, (tyFind (List.range e.prs) e 0 0 [] (st0 e)).2.at_)
end Go.Proofs.YtpicaknklgccoabGreatDoor
