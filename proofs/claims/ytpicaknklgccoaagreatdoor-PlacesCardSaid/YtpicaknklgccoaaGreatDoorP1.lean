import Derived.Lib.ItoaNum
import Derived.Test.YtpicaknklgccoaaGreatDoorProg
import Derived.WalkKit
import Derived.WalkSpells
import Derived.WalkLawsBesides
import Derived.Lib.Strings
import Derived.Lib.IndexBytes
namespace Go.Proofs.YtpicaknklgccoaaGreatDoor
def inB (lo hi : Int) (c : UInt8) : Bool := decide (lo ≤ (c.toNat : Int)) && decide ((c.toNat : Int) ≤ hi)
def run (lo hi : Int) : List UInt8 → Nat
 | [] => 0
 | c :: r => if inB lo hi c then run lo hi r + 1 else 0
theorem run_le (lo hi : Int) (l : List UInt8) : run lo hi l ≤ l.length := by
 induction l with
 | nil => simp [run]
 | cons c r ih => simp only [run]; split <;> simp <;> omega
def numeralB (l : List UInt8) (most : Nat) : Bool := decide (0 < l.length) && decide (l.length ≤ most) && (decide (l.length = 1) || (l.head? != some 48))
def valueL (l : List UInt8) : Int := l.foldl (fun n c => if c = 35 then n else 10 * n + (c.toNat : Int) - 48) 0
theorem valueL_snoc (l : List UInt8) (c : UInt8) : valueL (l ++ [c]) = if c = 35 then valueL l else 10 * valueL l + (c.toNat : Int) - 48 := by
 unfold valueL; rw [List.foldl_append]; rfl
theorem fold_bd (l : List UInt8) : ∀ (j : Nat) (a : Int), -(30 * 10 ^ j - 30) ≤ a → a ≤ 30 * 10 ^ j - 30 →
  -(30 * 10 ^ (j + l.length) - 30) ≤ l.foldl (fun n c => if c = 35 then n else 10 * n + (c.toNat : Int) - 48) a ∧ l.foldl (fun n c => if c = 35 then n else 10 * n + (c.toNat : Int) - 48) a ≤ 30 * 10 ^ (j + l.length) - 30 := by
 induction l with
 | nil => intro j a h1 h2; exact ⟨h1, h2⟩
 | cons c r ih =>
  intro j a h1 h2
  have hp : 0 < (10 : Int) ^ j := Int.pow_pos (by omega)
  have hc : c.toNat < 256 := c.toNat_lt
  have e : (10 : Int) ^ (j + 1) = 10 * 10 ^ j := by rw [Int.pow_succ]; omega
  have := ih (j + 1) (if c = 35 then a else 10 * a + (c.toNat : Int) - 48) (by rw [e]; split <;> omega) (by rw [e]; split <;> omega)
  rw [List.length_cons, show j + (r.length + 1) = j + 1 + r.length from by omega]
  exact this
theorem valueL_bd (l : List UInt8) : -(30 * 10 ^ l.length - 30) ≤ valueL l ∧ valueL l ≤ 30 * 10 ^ l.length - 30 := by
 have := fold_bd l 0 0 (by decide) (by decide)
 simpa [valueL] using this
def amongL (s : List UInt8) : List UInt8 → List UInt8 → Bool
 | cur, [] => cur == s
 | cur, c :: r => if c = 32 then (cur == s) || amongL s [] r else amongL s (cur ++ [c]) r
def sizeL (l : List UInt8) : Nat := (l.filter fun c => c == 60).length
theorem sizeL_snoc (l : List UInt8) (c : UInt8) : sizeL (l ++ [c]) = sizeL l + if c == 60 then 1 else 0 := by
 unfold sizeL; rw [List.filter_append]; cases h : c == 60 <;> simp [h]
theorem sizeL_le (l : List UInt8) : sizeL l ≤ l.length := by unfold sizeL; exact List.length_filter_le _ _
inductive Kw | let_ | pair | fst | snd | if_ | add | sub | less | loop | new
 deriving DecidableEq, Repr
def Kw.bytes : Kw → List UInt8
 | .let_ => [108, 101, 116]
 | .pair => [112, 97, 105, 114]
 | .fst => [102, 115, 116]
 | .snd => [115, 110, 100]
 | .if_ => [105, 102]
 | .add => [97, 100, 100]
 | .sub => [115, 117, 98]
 | .less => [108, 101, 115, 115]
 | .loop => [108, 111, 111, 112]
 | .new => [110, 101, 119]
def kwOf (l : List UInt8) : Option Kw :=
 if l = Kw.let_.bytes then some .let_ else if l = Kw.pair.bytes then some .pair else if l = Kw.fst.bytes then some .fst else
 if l = Kw.snd.bytes then some .snd else if l = Kw.if_.bytes then some .if_ else if l = Kw.add.bytes then some .add else
 if l = Kw.sub.bytes then some .sub else if l = Kw.less.bytes then some .less else if l = Kw.loop.bytes then some .loop else
 if l = Kw.new.bytes then some .new else none
theorem kwOf_some {l : List UInt8} {k : Kw} (h : kwOf l = some k) : l = k.bytes := by
 unfold kwOf at h
 repeat' (split at h; · simp only [Option.some.injEq] at h; subst h; assumption)
 simp at h
theorem kwOf_bytes (k : Kw) : kwOf k.bytes = some k := by cases k <;> decide
inductive Cl | opn | cls | nam | num | reg | bad | kw (k : Kw)
 deriving DecidableEq, Repr
def Cl.bytes : Cl → List UInt8
 | .opn => [40]
 | .cls => [41]
 | .nam => [78, 65, 77, 69]
 | .num => [78, 85, 77, 66, 69, 82]
 | .reg => [82, 69, 71, 73, 79, 78]
 | .bad => [66, 65, 68]
 | .kw k => k.bytes
def wordCl (l : List UInt8) (n : Nat) : Cl := match kwOf l with
 | some k => .kw k
 | none => if n ≤ 8 then .nam else .bad
def tokenOf (l : List UInt8) : Nat × Cl :=
 if 0 < run 97 122 l then
  (run 97 122 l, wordCl (l.take (run 97 122 l)) (run 97 122 l))
 else if 0 < run 48 57 l then
  (run 48 57 l, if numeralB (l.take (run 48 57 l)) 4 then .num else .bad)
 else match l with
  | [] => (1, .bad)
  | c :: r =>
   if c = 35 then (run 48 57 r + 1, if numeralB (r.take (run 48 57 r)) 3 then .reg else .bad)
   else (1, if c = 40 then .opn else if c = 41 then .cls else .bad)
theorem tokenOf_pos (l : List UInt8) : 0 < (tokenOf l).1 := by
 unfold tokenOf
 split
 ·assumption
 ·split
  ·assumption
  ·split
   ·simp
   ·split <;> simp
theorem tokenOf_le (l : List UInt8) (h : l ≠ []) : (tokenOf l).1 ≤ l.length := by
 unfold tokenOf
 split
 ·exact run_le _ _ _
 ·split
  ·exact run_le _ _ _
  ·split
   ·exact absurd rfl h
   ·rename_i c r _ _
    split
    ·have := run_le 48 57 r; simp; omega
    ·simp
theorem among_kept (s : List UInt8) : amongL s [] [108, 101, 116, 32, 112, 97, 105, 114, 32, 102, 115, 116, 32, 115, 110, 100, 32, 105, 102, 32, 97, 100, 100, 32, 115, 117, 98, 32, 108, 101, 115, 115, 32, 108, 111, 111, 112, 32, 110, 101, 119] = (kwOf s).isSome := by
 have e : amongL s [] [108, 101, 116, 32, 112, 97, 105, 114, 32, 102, 115, 116, 32, 115, 110, 100, 32, 105, 102, 32, 97, 100, 100, 32, 115, 117, 98, 32, 108, 101, 115, 115, 32, 108, 111, 111, 112, 32, 110, 101, 119]
  = ((Kw.let_.bytes == s) || ((Kw.pair.bytes == s) || ((Kw.fst.bytes == s) || ((Kw.snd.bytes == s) || ((Kw.if_.bytes == s) || ((Kw.add.bytes == s) || ((Kw.sub.bytes == s) || ((Kw.less.bytes == s) || ((Kw.loop.bytes == s) || (Kw.new.bytes == s)))))))))) := rfl
 rw [e]
 cases h : kwOf s with
 | some k => have := kwOf_some h; subst this; cases k <;> decide
 | none =>
  have hn : ∀ k : Kw, (k.bytes == s) = false := fun k => by
   rw [beq_eq_false_iff_ne]; intro e; rw [← e, kwOf_bytes] at h; cases h
  simp only [hn]; rfl
structure Tk where
 s : List UInt8
 at_ : Nat
 c : Cl
 deriving Repr
def blankB (c : UInt8) : Bool := c == 32 || c == 10
def toks : Nat → Nat → List UInt8 → List Tk
 | 0, _, _ => []
 | _ + 1, _, [] => []
 | f + 1, p, c :: r =>
  if blankB c then toks f (p + 1) r
  else ⟨(c :: r).take (tokenOf (c :: r)).1, p, (tokenOf (c :: r)).2⟩ :: toks f (p + (tokenOf (c :: r)).1) ((c :: r).drop (tokenOf (c :: r)).1)
theorem toks_fuel : ∀ (f g p : Nat) (l : List UInt8), l.length ≤ f → l.length ≤ g → toks f p l = toks g p l := by
 intro f
 induction f with
 | zero => intro g p l h1 h2; have : l = [] := List.length_eq_zero_iff.1 (by omega); subst this; cases g <;> rfl
 | succ f ih =>
  intro g p l h1 h2
  cases l with
  | nil => cases g <;> rfl
  | cons c r =>
   cases g with
   | zero => simp at h2
   | succ g =>
    simp only [List.length_cons] at h1 h2
    simp only [toks]
    have hp := tokenOf_pos (c :: r)
    split
    ·exact ih g _ r (by omega) (by omega)
    ·rw [ih g _ _ (by simp; omega) (by simp; omega)]
def tokens (l : List UInt8) : List Tk := toks l.length 0 l
theorem toks_blank (f p : Nat) (c : UInt8) (r : List UInt8) (h : blankB c = true) : toks (f + 1) p (c :: r) = toks f (p + 1) r := by simp [toks, h]
theorem toks_tok (f p : Nat) (c : UInt8) (r : List UInt8) (h : blankB c = false) : toks (f + 1) p (c :: r) = ⟨(c :: r).take (tokenOf (c :: r)).1, p, (tokenOf (c :: r)).2⟩ :: toks f (p + (tokenOf (c :: r)).1) ((c :: r).drop (tokenOf (c :: r)).1) := by simp [toks, h]
inductive Wt | e | word | close | name | region
 deriving DecidableEq, Repr
def Wt.bytes : Wt → List UInt8
 | .e => [101]
 | .word => [119, 111, 114, 100]
 | .close => [41]
 | .name => [78, 65, 77, 69]
 | .region => [82, 69, 71, 73, 79, 78]
def wantsK (k : Kw) (placed : Bool) : List Wt :=
 match k, placed with
 | .let_, _ => [.name, .e, .e, .close]
 | .loop, _ => [.e, .name, .e, .e, .close]
 | .pair, true => [.region, .e, .e, .close]
 | .new, true => [.region, .e, .close]
 | .pair, false => [.e, .e, .close]
 | .add, _ => [.e, .e, .close]
 | .sub, _ => [.e, .e, .close]
 | .less, _ => [.e, .e, .close]
 | .fst, _ => [.e, .close]
 | .snd, _ => [.e, .close]
 | .if_, _ => [.e, .e, .e, .close]
 | .new, false => []
def wantsC (c : Cl) (placed : Bool) : List Wt := match c with
 | .kw k => wantsK k placed
 | _ => []
def formRun (placed : Bool) (len : Nat) : List Tk → List Wt → Option Nat
 | [], [] => none
 | [], _ :: _ => some len
 | t :: _, [] => some t.at_
 | t :: ts, .e :: p => match t.c with
  | .opn => formRun placed len ts (.word :: p)
  | .num => formRun placed len ts p
  | .nam => formRun placed len ts p
  | _ => some t.at_
 | t :: ts, .word :: p => if wantsC t.c placed = [] then some t.at_ else formRun placed len ts (wantsC t.c placed ++ p)
 | t :: ts, .close :: p => if t.c = .cls then formRun placed len ts p else some t.at_
 | t :: ts, .name :: p => if t.c = .nam then formRun placed len ts p else some t.at_
 | t :: ts, .region :: p => if t.c = .reg then formRun placed len ts p else some t.at_
def formOf (placed : Bool) (l : List UInt8) : Option Nat := formRun placed l.length (tokens l) [.e]
theorem wantsC_len (c : Cl) (placed : Bool) : (wantsC c placed).length ≤ 5 := by
 cases c with
 | kw k => cases k <;> cases placed <;> decide
 | _ => simp [wantsC]
theorem toks_len : ∀ (f p : Nat) (l : List UInt8), (toks f p l).length ≤ l.length := by
 intro f
 induction f with
 | zero => intro p l; simp [toks]
 | succ f ih =>
  intro p l
  cases l with
  | nil => simp [toks]
  | cons c r =>
   simp only [toks]
   split
   ·have := ih (p + 1) r; simp; omega
   ·have hp := tokenOf_pos (c :: r)
    have := ih (p + (tokenOf (c :: r)).1) ((c :: r).drop (tokenOf (c :: r)).1)
    simp only [List.length_drop, List.length_cons] at this
    simp only [List.length_cons]; omega
inductive PT where
 | num (p : Nat) (s : List UInt8)
 | name (p : Nat) (s : List UInt8)
 | node (p : Nat) (k : Kw) (nm rg : List UInt8) (kids : List PT)
mutual
def PT.cnt : PT → Nat
 | .num _ _ => 1
 | .name _ _ => 1
 | .node _ _ _ _ kids => 1 + cntL kids
def cntL : List PT → Nat
 | [] => 0
 | t :: r => t.cnt + cntL r
end
mutual
def PT.prs : PT → Nat
 | .num _ _ => 0
 | .name _ _ => 0
 | .node _ k _ _ kids => (if k = .pair then 1 else 0) + prsL kids
def prsL : List PT → Nat
 | [] => 0
 | t :: r => t.prs + prsL r
end
mutual
inductive PE (placed : Bool) : List Tk → PT → List Tk → Prop
 | num {t : Tk} {r : List Tk} : t.c = .num → PE placed (t :: r) (.num t.at_ t.s) r
 | name {t : Tk} {r : List Tk} : t.c = .nam → PE placed (t :: r) (.name t.at_ t.s) r
 | node {t u : Tk} {k : Kw} {r r' : List Tk} {nm rg : List UInt8} {kids : List PT} : t.c = .opn → u.c = .kw k → wantsK k placed ≠ [] →
   PW placed (wantsK k placed) r nm rg kids r' → PE placed (t :: u :: r) (.node t.at_ k nm rg kids) r'
inductive PW (placed : Bool) : List Wt → List Tk → List UInt8 → List UInt8 → List PT → List Tk → Prop
 | nil {r : List Tk} : PW placed [] r [] [] [] r
 | close {t : Tk} {ws : List Wt} {r r' : List Tk} {nm rg : List UInt8} {kids : List PT} : t.c = .cls → PW placed ws r nm rg kids r' → PW placed (.close :: ws) (t :: r) nm rg kids r'
 | name {t : Tk} {ws : List Wt} {r r' : List Tk} {nm rg : List UInt8} {kids : List PT} : t.c = .nam → PW placed ws r nm rg kids r' → PW placed (.name :: ws) (t :: r) t.s rg kids r'
 | region {t : Tk} {ws : List Wt} {r r' : List Tk} {nm rg : List UInt8} {kids : List PT} : t.c = .reg → PW placed ws r nm rg kids r' → PW placed (.region :: ws) (t :: r) nm t.s kids r'
 | e {e : PT} {ws : List Wt} {l r r' : List Tk} {nm rg : List UInt8} {kids : List PT} : PE placed l e r → PW placed ws r nm rg kids r' → PW placed (.e :: ws) l nm rg (e :: kids) r'
end
mutual
theorem PE.sound {placed : Bool} {len : Nat} : ∀ {l : List Tk} {e : PT} {r : List Tk}, PE placed l e r → ∀ p, formRun placed len l (.e :: p) = formRun placed len r p
 | _, _, _, .num h, p => by simp [formRun, h]
 | _, _, _, .name h, p => by simp [formRun, h]
 | _, _, _, .node (k := k) h1 h2 h3 h4, p => by
  have := PW.sound (len := len) h4 p
  simp only [formRun, h1, h2, wantsC]
  rw [if_neg h3]; exact this
theorem PW.sound {placed : Bool} {len : Nat} : ∀ {ws : List Wt} {l : List Tk} {nm rg : List UInt8} {kids : List PT} {r : List Tk}, PW placed ws l nm rg kids r → ∀ p, formRun placed len l (ws ++ p) = formRun placed len r p
 | _, _, _, _, _, _, .nil, p => rfl
 | _, _, _, _, _, _, .close h h1, p => by have := PW.sound (len := len) h1 p; simp only [List.cons_append, formRun, if_pos h]; exact this
 | _, _, _, _, _, _, .name h h1, p => by have := PW.sound (len := len) h1 p; simp only [List.cons_append, formRun, if_pos h]; exact this
 | _, _, _, _, _, _, .region h h1, p => by have := PW.sound (len := len) h1 p; simp only [List.cons_append, formRun, if_pos h]; exact this
 | _, _, _, _, _, _, .e (ws := ws) h h1, p => by have := PE.sound (len := len) h (ws ++ p); rw [List.cons_append, this]; exact PW.sound h1 p
end
mutual
theorem PE.len {placed : Bool} : ∀ {l : List Tk} {e : PT} {r : List Tk}, PE placed l e r → r.length < l.length
 | _, _, _, .num _ => by simp
 | _, _, _, .name _ => by simp
 | _, _, _, .node _ _ _ h4 => by have := PW.len h4; simp; omega
theorem PW.len {placed : Bool} : ∀ {ws : List Wt} {l : List Tk} {nm rg : List UInt8} {kids : List PT} {r : List Tk}, PW placed ws l nm rg kids r → r.length ≤ l.length
 | _, _, _, _, _, _, .nil => Nat.le_refl _
 | _, _, _, _, _, _, .close _ h1 => by have := PW.len h1; simp; omega
 | _, _, _, _, _, _, .name _ h1 => by have := PW.len h1; simp; omega
 | _, _, _, _, _, _, .region _ h1 => by have := PW.len h1; simp; omega
 | _, _, _, _, _, _, .e h h1 => by have := PE.len h; have := PW.len h1; omega
end
theorem wantsK_word (k : Kw) (placed : Bool) : Wt.word ∉ wantsK k placed := by cases k <;> cases placed <;> decide
theorem parse_total (placed : Bool) (len : Nat) : ∀ n : Nat,
  (∀ l : List Tk, l.length ≤ n → (∃ e r, PE placed l e r) ∨ (∃ q, ∀ p, formRun placed len l (.e :: p) = some q)) ∧
  (∀ ws : List Wt, Wt.word ∉ ws → ∀ l : List Tk, l.length ≤ n → (∃ nm rg kids r, PW placed ws l nm rg kids r) ∨ (∃ q, ∀ p, formRun placed len l (ws ++ p) = some q)) := by
 intro n
 induction n with
 | zero =>
  have hE : ∀ l : List Tk, l.length ≤ 0 → (∃ e r, PE placed l e r) ∨ (∃ q, ∀ p, formRun placed len l (.e :: p) = some q) := by
   intro l hl
   have : l = [] := List.length_eq_zero_iff.1 (by omega)
   subst this
   exact Or.inr ⟨len, fun p => rfl⟩
  refine ⟨hE, ?_⟩
  intro ws hw l hl
  have : l = [] := List.length_eq_zero_iff.1 (by omega)
  subst this
  cases ws with
  | nil => exact Or.inl ⟨_, _, _, _, .nil⟩
  | cons x ws => exact Or.inr ⟨len, fun p => rfl⟩
 | succ n ih =>
  have hE : ∀ l : List Tk, l.length ≤ n + 1 → (∃ e r, PE placed l e r) ∨ (∃ q, ∀ p, formRun placed len l (.e :: p) = some q) := by
   intro l hl
   cases l with
   | nil => exact Or.inr ⟨len, fun p => rfl⟩
   | cons t r =>
    cases hc : t.c with
    | num => exact Or.inl ⟨_, _, .num hc⟩
    | nam => exact Or.inl ⟨_, _, .name hc⟩
    | opn =>
     cases r with
     | nil => exact Or.inr ⟨len, fun p => by simp [formRun, hc]⟩
     | cons u r =>
      by_cases hw : wantsC u.c placed = []
      ·exact Or.inr ⟨u.at_, fun p => by simp [formRun, hc, hw]⟩
      ·cases hu : u.c with
       | kw k =>
        rw [hu] at hw
        simp only [List.length_cons] at hl
        rcases ih.2 (wantsK k placed) (wantsK_word k placed) r (by omega) with ⟨nm, rg, kids, r', h⟩ | ⟨q, h⟩
        ·exact Or.inl ⟨_, _, .node hc hu hw h⟩
        ·refine Or.inr ⟨q, fun p => ?_⟩
         have := h p
         simp only [formRun, hc, hu]
         rw [if_neg hw]; exact this
       | _ => rw [hu] at hw; exact absurd rfl hw
    | _ => exact Or.inr ⟨t.at_, fun p => by simp [formRun, hc]⟩
  refine ⟨hE, ?_⟩
  intro ws
  induction ws with
  | nil => intro _ l _; exact Or.inl ⟨_, _, _, _, .nil⟩
  | cons x ws ihw =>
   intro hw l hl
   have hw' : Wt.word ∉ ws := fun h => hw (List.mem_cons_of_mem _ h)
   cases x with
   | word => exact absurd List.mem_cons_self hw
   | e =>
    rcases hE l hl with ⟨e, r, h⟩ | ⟨q, h⟩
    ·rcases ihw hw' r (by have := h.len; omega) with ⟨nm, rg, kids, r', h'⟩ | ⟨q, h'⟩
     ·exact Or.inl ⟨_, _, _, _, .e h h'⟩
     ·exact Or.inr ⟨q, fun p => by rw [List.cons_append, h.sound]; exact h' p⟩
    ·exact Or.inr ⟨q, fun p => h _⟩
   | close =>
    cases l with
    | nil => exact Or.inr ⟨len, fun p => rfl⟩
    | cons t r =>
     by_cases hc : t.c = .cls
     ·rcases ihw hw' r (by simp at hl; omega) with ⟨nm, rg, kids, r', h'⟩ | ⟨q, h'⟩
      ·exact Or.inl ⟨_, _, _, _, .close hc h'⟩
      ·exact Or.inr ⟨q, fun p => by simp only [List.cons_append, formRun, if_pos hc]; exact h' p⟩
     ·exact Or.inr ⟨t.at_, fun p => by simp only [List.cons_append, formRun, if_neg hc]⟩
   | name =>
    cases l with
    | nil => exact Or.inr ⟨len, fun p => rfl⟩
    | cons t r =>
     by_cases hc : t.c = .nam
     ·rcases ihw hw' r (by simp at hl; omega) with ⟨nm, rg, kids, r', h'⟩ | ⟨q, h'⟩
      ·exact Or.inl ⟨_, _, _, _, .name hc h'⟩
      ·exact Or.inr ⟨q, fun p => by simp only [List.cons_append, formRun, if_pos hc]; exact h' p⟩
     ·exact Or.inr ⟨t.at_, fun p => by simp only [List.cons_append, formRun, if_neg hc]⟩
   | region =>
    cases l with
    | nil => exact Or.inr ⟨len, fun p => rfl⟩
    | cons t r =>
     by_cases hc : t.c = .reg
     ·rcases ihw hw' r (by simp at hl; omega) with ⟨nm, rg, kids, r', h'⟩ | ⟨q, h'⟩
      ·exact Or.inl ⟨_, _, _, _, .region hc h'⟩
      ·exact Or.inr ⟨q, fun p => by simp only [List.cons_append, formRun, if_pos hc]; exact h' p⟩
     ·exact Or.inr ⟨t.at_, fun p => by simp only [List.cons_append, formRun, if_neg hc]⟩
theorem form_none {placed : Bool} {l : List UInt8} (h : formOf placed l = none) : ∃ e, PE placed (tokens l) e [] := by
 unfold formOf at h
 rcases (parse_total placed l.length (tokens l).length).1 (tokens l) (Nat.le_refl _) with ⟨e, r, hp⟩ | ⟨q, hq⟩
 ·rw [hp.sound] at h
  cases r with
  | nil => exact ⟨e, hp⟩
  | cons t r => simp [formRun] at h
 ·rw [hq] at h; cases h
def cntE (l : List Wt) : Nat := (l.filter (· = .e)).length
theorem wants_close {k : Kw} {placed : Bool} {done ws : List Wt} (h : wantsK k placed = done ++ .close :: ws) : ws = [] := by
 cases k <;> cases placed <;> simp only [wantsK] at h <;>
 rcases done with _ | ⟨a1, _ | ⟨a2, _ | ⟨a3, _ | ⟨a4, _ | ⟨a5, done⟩⟩⟩⟩⟩ <;> simp at h <;> simp_all
theorem wants_name {k : Kw} {placed : Bool} {done ws : List Wt} (h : wantsK k placed = done ++ .name :: ws) :
  ((k = .let_ ∧ cntE done = 0) ∨ (k = .loop ∧ cntE done = 1)) ∧ Wt.name ∉ done ∧ Wt.name ∉ ws := by
 cases k <;> cases placed <;> simp only [wantsK] at h <;>
 rcases done with _ | ⟨a1, _ | ⟨a2, _ | ⟨a3, _ | ⟨a4, _ | ⟨a5, done⟩⟩⟩⟩⟩ <;> simp at h <;> (try simp_all [cntE]) <;> (try obtain ⟨_, rfl⟩ := h) <;> (try subst_vars) <;> simp
theorem wants_region {k : Kw} {placed : Bool} {done ws : List Wt} (h : wantsK k placed = done ++ .region :: ws) : Wt.region ∉ done ∧ Wt.region ∉ ws := by
 cases k <;> cases placed <;> simp only [wantsK] at h <;>
 rcases done with _ | ⟨a1, _ | ⟨a2, _ | ⟨a3, _ | ⟨a4, _ | ⟨a5, done⟩⟩⟩⟩⟩ <;> simp at h <;> (try simp_all) <;> (try subst_vars) <;> simp
theorem wants_e {k : Kw} {placed : Bool} {done ws : List Wt} (h : wantsK k placed = done ++ .e :: ws) :
  Wt.name ∈ done ∨ (k ≠ .let_ ∧ (k = .loop → cntE done = 0)) := by
 cases k <;> cases placed <;> simp only [wantsK] at h <;>
 rcases done with _ | ⟨a1, _ | ⟨a2, _ | ⟨a3, _ | ⟨a4, _ | ⟨a5, done⟩⟩⟩⟩⟩ <;> simp at h <;> simp_all [cntE]
theorem wants_more {k : Kw} {placed : Bool} {done ws : List Wt} {x : Wt} (h : wantsK k placed = done ++ x :: ws) (hx : x ≠ .close) : ws ≠ [] := by
 cases k <;> cases placed <;> simp only [wantsK] at h <;>
 rcases done with _ | ⟨a1, _ | ⟨a2, _ | ⟨a3, _ | ⟨a4, _ | ⟨a5, done⟩⟩⟩⟩⟩ <;> simp at h <;> intro e <;> subst e <;> simp_all
inductive PWx (Good : List Tk → PT → List Tk → Prop) : List Wt → List Tk → List UInt8 → List UInt8 → List PT → List Tk → Prop
 | nil {r : List Tk} : PWx Good [] r [] [] [] r
 | close {t : Tk} {ws : List Wt} {r r' : List Tk} {nm rg : List UInt8} {kids : List PT} : t.c = .cls → PWx Good ws r nm rg kids r' → PWx Good (.close :: ws) (t :: r) nm rg kids r'
 | name {t : Tk} {ws : List Wt} {r r' : List Tk} {nm rg : List UInt8} {kids : List PT} : t.c = .nam → PWx Good ws r nm rg kids r' → PWx Good (.name :: ws) (t :: r) t.s rg kids r'
 | region {t : Tk} {ws : List Wt} {r r' : List Tk} {nm rg : List UInt8} {kids : List PT} : t.c = .reg → PWx Good ws r nm rg kids r' → PWx Good (.region :: ws) (t :: r) nm t.s kids r'
 | e {e : PT} {ws : List Wt} {l r r' : List Tk} {nm rg : List UInt8} {kids : List PT} : Good l e r → PWx Good ws r nm rg kids r' → PWx Good (.e :: ws) l nm rg (e :: kids) r'
theorem PWx.noname {Good : List Tk → PT → List Tk → Prop} {ws : List Wt} {l : List Tk} {nm rg : List UInt8} {kids : List PT} {r : List Tk} (h : PWx Good ws l nm rg kids r) (hn : Wt.name ∉ ws) : nm = [] := by
 induction h with
 | nil => rfl
 | close _ _ ih => exact ih (fun h => hn (List.mem_cons_of_mem _ h))
 | name _ _ _ => exact absurd List.mem_cons_self hn
 | region _ _ ih => exact ih (fun h => hn (List.mem_cons_of_mem _ h))
 | e _ _ ih => exact ih (fun h => hn (List.mem_cons_of_mem _ h))
theorem PWx.noregion {Good : List Tk → PT → List Tk → Prop} {ws : List Wt} {l : List Tk} {nm rg : List UInt8} {kids : List PT} {r : List Tk} (h : PWx Good ws l nm rg kids r) (hn : Wt.region ∉ ws) : rg = [] := by
 induction h with
 | nil => rfl
 | close _ _ ih => exact ih (fun h => hn (List.mem_cons_of_mem _ h))
 | region _ _ _ => exact absurd List.mem_cons_self hn
 | name _ _ ih => exact ih (fun h => hn (List.mem_cons_of_mem _ h))
 | e _ _ ih => exact ih (fun h => hn (List.mem_cons_of_mem _ h))
mutual
theorem PE.used {placed : Bool} : ∀ {l : List Tk} {e : PT} {r : List Tk}, PE placed l e r → e.cnt + r.length ≤ l.length ∧ e.prs + r.length + 1 ≤ l.length
 | _, _, _, .num _ => by simp [PT.cnt, PT.prs]; omega
 | _, _, _, .name _ => by simp [PT.cnt, PT.prs]; omega
 | _, _, _, .node (k := k) _ _ _ h4 => by have := PW.used h4; simp [PT.cnt, PT.prs]; split <;> omega
theorem PW.used {placed : Bool} : ∀ {ws : List Wt} {l : List Tk} {nm rg : List UInt8} {kids : List PT} {r : List Tk}, PW placed ws l nm rg kids r → cntL kids + r.length ≤ l.length ∧ prsL kids + r.length ≤ l.length
 | _, _, _, _, _, _, .nil => by simp [cntL, prsL]
 | _, _, _, _, _, _, .close _ h1 => by have := PW.used h1; simp; omega
 | _, _, _, _, _, _, .name _ h1 => by have := PW.used h1; simp; omega
 | _, _, _, _, _, _, .region _ h1 => by have := PW.used h1; simp; omega
 | _, _, _, _, _, _, .e h h1 => by have := PE.used h; have := PW.used h1; simp only [cntL, prsL]; omega
end
theorem PE.suffix {placed : Bool} {l : List Tk} {e : PT} {r : List Tk} (h : PE placed l e r) : ∃ t r', l = t :: r' ∧ (t.c = .num ∨ t.c = .nam ∨ t.c = .opn) := by
 cases h with
 | num h => exact ⟨_, _, rfl, Or.inl h⟩
 | name h => exact ⟨_, _, rfl, Or.inr (Or.inl h)⟩
 | node h _ _ _ => exact ⟨_, _, rfl, Or.inr (Or.inr h)⟩
mutual
theorem PE.drop {placed : Bool} : ∀ {l : List Tk} {e : PT} {r : List Tk}, PE placed l e r → ∃ n, r = l.drop n ∧ n ≤ l.length
 | _, _, _, .num _ => ⟨1, by simp, by simp⟩
 | _, _, _, .name _ => ⟨1, by simp, by simp⟩
 | _, _, _, .node _ _ _ h4 => by obtain ⟨n, h, hn⟩ := PW.drop h4; exact ⟨n + 2, by simp [h], by simp; omega⟩
theorem PW.drop {placed : Bool} : ∀ {ws : List Wt} {l : List Tk} {nm rg : List UInt8} {kids : List PT} {r : List Tk}, PW placed ws l nm rg kids r → ∃ n, r = l.drop n ∧ n ≤ l.length
 | _, _, _, _, _, _, .nil => ⟨0, by simp, by simp⟩
 | _, _, _, _, _, _, .close _ h1 => by obtain ⟨n, h, hn⟩ := PW.drop h1; exact ⟨n + 1, by simp [h], by simp; omega⟩
 | _, _, _, _, _, _, .name _ h1 => by obtain ⟨n, h, hn⟩ := PW.drop h1; exact ⟨n + 1, by simp [h], by simp; omega⟩
 | _, _, _, _, _, _, .region _ h1 => by obtain ⟨n, h, hn⟩ := PW.drop h1; exact ⟨n + 1, by simp [h], by simp; omega⟩
 | _, _, _, _, _, _, .e h h1 => by
  obtain ⟨n, hr, hn⟩ := PE.drop h
  obtain ⟨m, hr', hm⟩ := PW.drop h1
  refine ⟨n + m, by rw [hr', hr, List.drop_drop], ?_⟩
  rw [hr] at hm; simp at hm; omega
end
open Go.Lib (decDigits)
inductive Ty where
 | n
 | p (r : Nat) (a b : Ty)
 deriving DecidableEq
def Ty.txt : Ty → List UInt8
 | .n => [110]
 | .p r a b => 60 :: (decDigits r ++ 58 :: (a.txt ++ (b.txt ++ [62])))
def Ty.size : Ty → Nat
 | .n => 0
 | .p _ a b => a.size + b.size + 1
def Ty.bare : Ty → Ty
 | .n => .n
 | .p _ a b => .p 0 a.bare b.bare
def Ty.plain : Ty → List UInt8
 | .n => [110]
 | .p _ a b => 60 :: (a.plain ++ (b.plain ++ [62]))
def digitB (c : UInt8) : Bool := decide (48 ≤ c.toNat) && decide (c.toNat ≤ 57)
theorem dec_digit (u : Nat) : ∀ c ∈ decDigits u, digitB c = true := by
 induction u using Nat.strongRecOn with
 | _ u ih =>
  rw [decDigits]
  have key : ∀ k, k < 10 → digitB (UInt8.ofNat (48 + k)) = true := by
   intro k hk
   unfold digitB
   have : (UInt8.ofNat (48 + k)).toNat = 48 + k := by simp; omega
   rw [this]; simp; omega
  split
  ·intro c hc; rw [List.mem_singleton] at hc; subst hc; exact key u (by omega)
  ·intro c hc
   rw [List.mem_append] at hc
   rcases hc with hc | hc
   ·exact ih (u / 10) (by omega) c hc
   ·rw [List.mem_singleton] at hc; subst hc; exact key _ (by omega)
theorem digit_ne {c : UInt8} (h : digitB c = true) : c ≠ 58 ∧ c ≠ 60 ∧ c ≠ 62 ∧ c ≠ 110 := by
 unfold digitB at h
 simp only [Bool.and_eq_true, decide_eq_true_eq] at h
 refine ⟨?_, ?_, ?_, ?_⟩ <;> (intro e; subst e; revert h; decide)
def endL : Int → List UInt8 → Nat
 | _, [] => 0
 | o, c :: r =>
  let o' := if c = 60 then o + 1 else if c = 62 then o - 1 else o
  if o' = 0 ∧ (c = 110 ∨ c = 62) then 1 else 1 + endL o' r
theorem endL_lt (o : Int) (r : List UInt8) : endL o (60 :: r) = 1 + endL (o + 1) r := by simp [endL]
theorem endL_gt0 (r : List UInt8) : endL 1 (62 :: r) = 1 := by simp [endL]
theorem endL_gt (o : Int) (r : List UInt8) (h : o ≠ 1) : endL o (62 :: r) = 1 + endL (o - 1) r := by
 have h' : ¬ (o - 1 = 0) := by omega
 simp [endL, h']
theorem endL_n (o : Int) (r : List UInt8) (h : o ≠ 0) : endL o (110 :: r) = 1 + endL o r := by
 simp [endL, h]
theorem endL_skip (o : Int) (c : UInt8) (r : List UInt8) (h1 : c ≠ 60) (h2 : c ≠ 62) (h3 : c ≠ 110) : endL o (c :: r) = 1 + endL o r := by
 simp [endL, h1, h2, h3]
theorem endL_digits (o : Int) (l r : List UInt8) (h : ∀ c ∈ l, digitB c = true) : endL o (l ++ r) = l.length + endL o r := by
 induction l with
 | nil => simp
 | cons c l ih =>
  have hc := digit_ne (h c List.mem_cons_self)
  rw [List.cons_append, endL_skip o c _ hc.2.1 hc.2.2.1 hc.2.2.2, ih (fun c hc => h c (List.mem_cons_of_mem _ hc))]
  simp; omega
theorem endL_open (t : Ty) : ∀ (o : Int) (r : List UInt8), 0 < o → endL o (t.txt ++ r) = t.txt.length + endL o r := by
 induction t with
 | n => intro o r ho; simp only [Ty.txt, List.cons_append, List.nil_append]; rw [endL_n _ _ (by omega)]; simp
 | p q a b iha ihb =>
  intro o r ho
  simp only [Ty.txt, List.cons_append, List.append_assoc]
  rw [endL_lt, endL_digits _ _ _ (dec_digit q), endL_skip _ 58 _ (by decide) (by decide) (by decide), iha _ _ (by omega), ihb _ _ (by omega), List.nil_append, endL_gt _ _ (by omega)]
  rw [show o + 1 - 1 = o from by omega]
  simp; omega
theorem endL_txt (t : Ty) (r : List UInt8) : endL 0 (t.txt ++ r) = t.txt.length := by
 cases t with
 | n => simp [Ty.txt, endL]
 | p q a b =>
  simp only [Ty.txt, List.cons_append, List.append_assoc]
  rw [endL_lt, endL_digits _ _ _ (dec_digit q), endL_skip _ 58 _ (by decide) (by decide) (by decide), endL_open a _ _ (by omega), endL_open b _ _ (by omega), List.nil_append, Int.zero_add, endL_gt0]
  simp; omega
theorem size_digits (l : List UInt8) (h : ∀ c ∈ l, digitB c = true) : sizeL l = 0 := by
 induction l with
 | nil => rfl
 | cons c l ih =>
  have hc := digit_ne (h c List.mem_cons_self)
  have := ih (fun c hc => h c (List.mem_cons_of_mem _ hc))
  unfold sizeL at this ⊢
  rw [List.filter_cons, if_neg (by simpa using hc.2.1)]; exact this
theorem sizeL_append (a b : List UInt8) : sizeL (a ++ b) = sizeL a + sizeL b := by simp [sizeL]
theorem sizeL_cons (c : UInt8) (l : List UInt8) : sizeL (c :: l) = (if c = 60 then 1 else 0) + sizeL l := by
 unfold sizeL; rw [List.filter_cons]; by_cases h : c = 60 <;> simp [h]; omega
theorem size_txt (t : Ty) : sizeL t.txt = t.size := by
 induction t with
 | n => rfl
 | p q a b iha ihb =>
  simp only [Ty.txt, Ty.size, sizeL_cons, sizeL_append, iha, ihb, size_digits _ (dec_digit q)]
  have : sizeL [] = 0 := rfl
  rw [this]; simp; omega
theorem txt_ne (t : Ty) : t.txt ≠ [] := by cases t <;> simp [Ty.txt]
theorem plain_inj_aux (t : Ty) : ∀ (u : Ty) (r r' : List UInt8), t.plain ++ r = u.plain ++ r' → t.bare = u.bare ∧ r = r' := by
 induction t with
 | n => intro u r r' h; cases u with
  | n => simp [Ty.plain] at h; exact ⟨rfl, h⟩
  | p q a b => simp [Ty.plain] at h
 | p q a b iha ihb => intro u r r' h; cases u with
  | n => simp [Ty.plain] at h
  | p q' a' b' =>
   simp only [Ty.plain, List.cons_append, List.cons.injEq, List.append_assoc, true_and] at h
   obtain ⟨h1, h2⟩ := iha _ _ _ h
   obtain ⟨h3, h4⟩ := ihb _ _ _ h2
   simp only [List.nil_append, List.cons.injEq, true_and] at h4
   exact ⟨by simp [Ty.bare, h1, h3], h4⟩
theorem plain_inj (t u : Ty) : (t.plain = u.plain) ↔ t.bare = u.bare := by
 constructor
 ·intro h; exact (plain_inj_aux t u [] [] (by rw [h])).1
 ·intro h
  have : ∀ t : Ty, t.plain = t.bare.plain := by
   intro t; induction t with
   | n => rfl
   | p q a b iha ihb => simp [Ty.plain, Ty.bare, ← iha, ← ihb]
  rw [this t, this u, h]
def Ty.regs : Ty → Prop
 | .n => True
 | .p r a b => r < 1000 ∧ a.regs ∧ b.regs
def Ty.fit (t : Ty) : Prop := t.size ≤ 127 ∧ t.regs
theorem dec2 (r : Nat) (h : r < 1000) : (Go.Lib.decDigits r).length ≤ 3 := by
 rw [Go.Lib.decDigits]; split
 ·simp
 ·rw [Go.Lib.decDigits]; split
  ·simp
  ·rw [Go.Lib.decDigits]; split
   ·simp
   ·omega
theorem regs_len (t : Ty) (h : t.regs) : t.txt.length ≤ 7 * t.size + 1 := by
 induction t with
 | n => simp [Ty.txt, Ty.size]
 | p r a b iha ihb =>
  simp only [Ty.regs] at h
  have h1 := iha h.2.1
  have h2 := ihb h.2.2
  have h3 := dec2 r h.1
  simp only [Ty.txt, Ty.size, List.length_cons, List.length_append, List.length_nil]; omega
theorem fit_len {t : Ty} (h : t.fit) : t.txt.length ≤ 1000 := by
 have := regs_len t h.2
 have := h.1
 omega
structure TSt where
 e : Nat
 at_ : Nat
 of : List (List UInt8)
abbrev TEnv := List (List UInt8 × Ty)
def look (env : TEnv) (s : List UInt8) : Option Ty := (env.reverse.find? (fun x => x.1 == s)).map (·.2)
def errS (st : TSt) (e p : Nat) : TSt := if st.e = 0 then { st with e := e, at_ := p } else st
def fin (id p : Nat) (x : Ty × TSt) : Ty × TSt :=
 let st := if x.2.e = 0 ∧ 63 < x.1.size then errS x.2 6 p else x.2
 (x.1, { st with of := st.of.set id x.1.txt })
def madeT (cls : List Nat) (k : Kw) (p site : Nat) (ks : List Ty) (st : TSt) : Ty × TSt :=
 match k, ks with
 | .new, a :: _ => (a, st)
 | .pair, [a, b] => (.p (cls.getD site 0) a b, st)
 | .fst, .p _ a _ :: _ => (a, st)
 | .snd, .p _ _ b :: _ => (b, st)
 | .if_, [a, b, c] => if a = .n ∧ b.bare = c.bare then (b, st) else (.n, errS st 5 p)
 | .loop, [a, b, c] => if a = .n ∧ b.bare = c.bare then (b, st) else (.n, errS st 5 p)
 | .add, [a, b] => if a = .n ∧ b = .n then (.n, st) else (.n, errS st 5 p)
 | .sub, [a, b] => if a = .n ∧ b = .n then (.n, st) else (.n, errS st 5 p)
 | .less, [a, b] => if a = .n ∧ b = .n then (.n, st) else (.n, errS st 5 p)
 | _, _ => (.n, errS st 5 p)
mutual
def tyFind (cls : List Nat) : PT → Nat → Nat → TEnv → TSt → Ty × TSt
 | .num p _, id, _, _, st => fin id p (.n, st)
 | .name p s, id, _, env, st => fin id p (match look env s with
  | some t => (t, st)
  | none => (.n, errS st 4 p))
 | .node p k nm _ kids, id, site, env, st =>
  fin id p (if k = .let_ then tyLet cls nm kids (id + 1) site env st
   else
    let x := if k = .loop then tyLoop cls nm kids (id + 1) site env st else tyKids cls kids (id + 1) (site + if k = .pair then 1 else 0) env st
    if x.2.e ≠ 0 then (.n, x.2) else madeT cls k p site x.1 x.2)
def tyKids (cls : List Nat) : List PT → Nat → Nat → TEnv → TSt → List Ty × TSt
 | [], _, _, _, st => ([], st)
 | a :: r, id, site, env, st =>
  let x := tyFind cls a id site env st
  let y := tyKids cls r (id + a.cnt) (site + a.prs) env x.2
  (x.1 :: y.1, y.2)
def tyLet (cls : List Nat) (nm : List UInt8) : List PT → Nat → Nat → TEnv → TSt → Ty × TSt
 | [a, b], id, site, env, st =>
  let x := tyFind cls a id site env st
  tyFind cls b (id + a.cnt) (site + a.prs) (env ++ [(nm, x.1)]) x.2
 | _, _, _, _, st => (.n, st)
def tyLoop (cls : List Nat) (nm : List UInt8) : List PT → Nat → Nat → TEnv → TSt → List Ty × TSt
 | [a, b, c], id, site, env, st =>
  let x := tyFind cls a id site env st
  let y := tyFind cls b (id + a.cnt) (site + a.prs) env x.2
  let z := tyFind cls c (id + a.cnt + b.cnt) (site + a.prs + b.prs) (env ++ [(nm, y.1)]) y.2
  ([x.1, y.1, z.1], z.2)
 | _, _, _, _, st => ([], st)
end
def envOk (env : TEnv) (st : TSt) : Prop := (∀ x ∈ env, x.2.fit) ∧ (st.e = 0 → ∀ x ∈ env, x.2.size ≤ 63)
def resOk (st : TSt) (x : Ty × TSt) : Prop := x.1.fit ∧ (x.2.e = 0 → st.e = 0 ∧ x.1.size ≤ 63) ∧ x.2.of.length = st.of.length
def preOk (st : TSt) (x : Ty × TSt) : Prop := x.1.fit ∧ (x.2.e = 0 → st.e = 0) ∧ x.2.of.length = st.of.length
theorem fit_n : Ty.n.fit := ⟨by simp [Ty.size], trivial⟩
theorem errS_len (st : TSt) (e p : Nat) : (errS st e p).of.length = st.of.length := by unfold errS; split <;> rfl
theorem errS_e (st : TSt) (e p : Nat) (he : e ≠ 0) : (errS st e p).e ≠ 0 := by unfold errS; split <;> simp_all
theorem fin_ok {id p : Nat} {st : TSt} {x : Ty × TSt} (h : preOk st x) : resOk st (fin id p x) := by
 obtain ⟨h1, h2, h3⟩ := h
 unfold resOk
 by_cases hb : x.2.e = 0 ∧ 63 < x.1.size
 ·have e : fin id p x = (x.1, { (errS x.2 6 p) with of := (errS x.2 6 p).of.set id x.1.txt }) := by simp only [fin]; rw [if_pos hb]
  rw [e]
  refine ⟨h1, fun h0 => absurd h0 (errS_e _ _ _ (by decide)), ?_⟩
  simp only [List.length_set]; rw [errS_len]; exact h3
 ·have e : fin id p x = (x.1, { x.2 with of := x.2.of.set id x.1.txt }) := by simp only [fin]; rw [if_neg hb]
  rw [e]
  refine ⟨h1, fun h0 => ⟨h2 h0, ?_⟩, by simp only [List.length_set]; exact h3⟩
  simp only at h0 ⊢
  exact Nat.le_of_not_lt (fun h => hb ⟨h0, h⟩)
theorem look_mem {env : TEnv} {s : List UInt8} {t : Ty} (h : look env s = some t) : ∃ x ∈ env, x.2 = t := by
 unfold look at h
 rw [Option.map_eq_some_iff] at h
 obtain ⟨x, hx, rfl⟩ := h
 exact ⟨x, by have := List.mem_of_find?_eq_some hx; simpa using this, rfl⟩
theorem made_pre {cls : List Nat} {k : Kw} {p site : Nat} {ks : List Ty} {st : TSt} (hc : ∀ x ∈ cls, x < 1000) (hk : ∀ t ∈ ks, t.fit ∧ t.size ≤ 63) : preOk st (madeT cls k p site ks st) := by
 have hr : cls.getD site 0 < 1000 := by
  rw [List.getD_eq_getElem?_getD]
  cases h : cls[site]? with
  | none => simp
  | some x => exact hc x (List.mem_of_getElem? h)
 have err : preOk st (Ty.n, errS st 5 p) := ⟨fit_n, fun h => absurd h (errS_e _ _ _ (by decide)), errS_len _ _ _⟩
 unfold madeT
 split
 ·rename_i a _; exact ⟨(hk a (by simp)).1, fun h => h, rfl⟩
 ·rename_i a b
  have ha := hk a (by simp)
  have hb := hk b (by simp)
  exact ⟨⟨by simp only [Ty.size]; omega, ⟨hr, ha.1.2, hb.1.2⟩⟩, fun h => h, rfl⟩
 ·rename_i r a b _
  have ha := hk (.p r a b) (by simp)
  exact ⟨⟨by show a.size ≤ 127; have := ha.2; simp only [Ty.size] at this; omega, ha.1.2.2.1⟩, fun h => h, rfl⟩
 ·rename_i r a b _
  have ha := hk (.p r a b) (by simp)
  exact ⟨⟨by show b.size ≤ 127; have := ha.2; simp only [Ty.size] at this; omega, ha.1.2.2.2⟩, fun h => h, rfl⟩
 ·rename_i a b c
  split
  ·exact ⟨(hk b (by simp)).1, fun h => h, rfl⟩
  ·exact err
 ·rename_i a b c
  split
  ·exact ⟨(hk b (by simp)).1, fun h => h, rfl⟩
  ·exact err
 ·split
  ·exact ⟨fit_n, fun h => h, rfl⟩
  ·exact err
 ·split
  ·exact ⟨fit_n, fun h => h, rfl⟩
  ·exact err
 ·split
  ·exact ⟨fit_n, fun h => h, rfl⟩
  ·exact err
 ·exact err
theorem tyKids_snoc (cls : List Nat) (ts : List PT) (t : PT) : ∀ (id site : Nat) (env : TEnv) (st : TSt), tyKids cls (ts ++ [t]) id site env st =
  ((tyKids cls ts id site env st).1 ++ [(tyFind cls t (id + cntL ts) (site + prsL ts) env (tyKids cls ts id site env st).2).1], (tyFind cls t (id + cntL ts) (site + prsL ts) env (tyKids cls ts id site env st).2).2) := by
 induction ts with
 | nil => intro id site env st; simp [tyKids, cntL, prsL]
 | cons a r ih =>
  intro id site env st
  simp only [List.cons_append, tyKids, ih, cntL, prsL]
  rw [Nat.add_assoc id, Nat.add_assoc site]
theorem tyKids_len (cls : List Nat) (ts : List PT) : ∀ (id site : Nat) (env : TEnv) (st : TSt), (tyKids cls ts id site env st).1.length = ts.length := by
 induction ts with
 | nil => intro id site env st; simp [tyKids]
 | cons a r ih => intro id site env st; simp [tyKids, ih]
theorem envOk.on {env : TEnv} {st st' : TSt} (h : envOk env st) (hs : st'.e = 0 → st.e = 0) : envOk env st' := ⟨h.1, fun h0 => h.2 (hs h0)⟩
theorem envOk.snoc {env : TEnv} {st : TSt} {nm : List UInt8} {x : Ty × TSt} (h : envOk env st) (hx : resOk st x) : envOk (env ++ [(nm, x.1)]) x.2 := by
 constructor
 ·intro y hy
  rcases List.mem_append.1 hy with hy | hy
  ·exact h.1 y hy
  ·rw [List.mem_singleton] at hy; subst hy; exact hx.1
 ·intro h0 y hy
  rcases List.mem_append.1 hy with hy | hy
  ·exact h.2 (hx.2.1 h0).1 y hy
  ·rw [List.mem_singleton] at hy; subst hy; exact (hx.2.1 h0).2
def ksOk (st : TSt) (x : List Ty × TSt) : Prop := (∀ t ∈ x.1, t.fit) ∧ (x.2.e = 0 → st.e = 0 ∧ ∀ t ∈ x.1, t.size ≤ 63) ∧ x.2.of.length = st.of.length
mutual
theorem tyFind_ok (cls : List Nat) (hc : ∀ x ∈ cls, x < 1000) : ∀ (t : PT) (id site : Nat) (env : TEnv) (st : TSt), envOk env st → resOk st (tyFind cls t id site env st)
 | .num p s, id, site, env, st, h => by simp only [tyFind]; exact fin_ok ⟨fit_n, fun h => h, rfl⟩
 | .name p s, id, site, env, st, h => by
  simp only [tyFind]
  refine fin_ok ?_
  split
  ·rename_i t ht
   obtain ⟨x, hx, rfl⟩ := look_mem ht
   exact ⟨h.1 x hx, fun h => h, rfl⟩
  ·exact ⟨fit_n, fun h => absurd h (errS_e _ _ _ (by decide)), errS_len _ _ _⟩
 | .node p k nm rg kids, id, site, env, st, h => by
  simp only [tyFind]
  refine fin_ok ?_
  split
  ·have := tyLet_ok cls hc nm kids (id + 1) site env st h
   exact ⟨this.1, fun h0 => (this.2.1 h0), this.2.2⟩
  ·have hx : ksOk st (if k = .loop then tyLoop cls nm kids (id + 1) site env st else tyKids cls kids (id + 1) (site + if k = .pair then 1 else 0) env st) := by
    split
    ·exact tyLoop_ok cls hc nm kids _ _ env st h
    ·exact tyKids_ok cls hc kids _ _ env st h
   generalize (if k = .loop then tyLoop cls nm kids (id + 1) site env st else tyKids cls kids (id + 1) (site + if k = .pair then 1 else 0) env st) = x at hx
   split
   ·rename_i hne
    exact ⟨fit_n, fun h0 => absurd h0 hne, hx.2.2⟩
   ·rename_i hne
    have h0 : x.2.e = 0 := by simpa using hne
    have hm := made_pre (k := k) (p := p) (site := site) (st := x.2) hc (fun t ht => ⟨hx.1 t ht, (hx.2.1 h0).2 t ht⟩)
    exact ⟨hm.1, fun h1 => (hx.2.1 (hm.2.1 h1)).1, hm.2.2.trans hx.2.2⟩
theorem tyKids_ok (cls : List Nat) (hc : ∀ x ∈ cls, x < 1000) : ∀ (ts : List PT) (id site : Nat) (env : TEnv) (st : TSt), envOk env st → ksOk st (tyKids cls ts id site env st)
 | [], _, _, _, st, _ => by simp only [tyKids]; exact ⟨by simp, fun h => ⟨h, by simp⟩, rfl⟩
 | a :: r, id, site, env, st, h => by
  simp only [tyKids]
  have h1 := tyFind_ok cls hc a id site env st h
  have h2 := tyKids_ok cls hc r (id + a.cnt) (site + a.prs) env (tyFind cls a id site env st).2 (h.on (fun h0 => (h1.2.1 h0).1))
  refine ⟨?_, ?_, h2.2.2.trans h1.2.2⟩
  ·intro t ht
   rcases List.mem_cons.1 ht with rfl | ht
   ·exact h1.1
   ·exact h2.1 t ht
  ·intro h0
   have q := h2.2.1 h0
   have q1 := h1.2.1 q.1
   refine ⟨q1.1, ?_⟩
   intro t ht
   rcases List.mem_cons.1 ht with rfl | ht
   ·exact q1.2
   ·exact q.2 t ht
theorem tyLet_ok (cls : List Nat) (hc : ∀ x ∈ cls, x < 1000) (nm : List UInt8) : ∀ (ts : List PT) (id site : Nat) (env : TEnv) (st : TSt), envOk env st → preOk st (tyLet cls nm ts id site env st)
 | [a, b], id, site, env, st, h => by
  simp only [tyLet]
  have h1 := tyFind_ok cls hc a id site env st h
  have h2 := tyFind_ok cls hc b (id + a.cnt) (site + a.prs) (env ++ [(nm, (tyFind cls a id site env st).1)]) (tyFind cls a id site env st).2 (h.snoc h1)
  exact ⟨h2.1, fun h0 => (h1.2.1 (h2.2.1 h0).1).1, h2.2.2.trans h1.2.2⟩
 | [], _, _, _, st, _ => by simp only [tyLet]; exact ⟨fit_n, fun h => h, rfl⟩
 | [_], _, _, _, st, _ => by simp only [tyLet]; exact ⟨fit_n, fun h => h, rfl⟩
 | _ :: _ :: _ :: _, _, _, _, st, _ => by simp only [tyLet]; exact ⟨fit_n, fun h => h, rfl⟩
theorem tyLoop_ok (cls : List Nat) (hc : ∀ x ∈ cls, x < 1000) (nm : List UInt8) : ∀ (ts : List PT) (id site : Nat) (env : TEnv) (st : TSt), envOk env st → ksOk st (tyLoop cls nm ts id site env st)
 | [a, b, c], id, site, env, st, h => by
  simp only [tyLoop]
  have h1 := tyFind_ok cls hc a id site env st h
  have h2 := tyFind_ok cls hc b (id + a.cnt) (site + a.prs) env (tyFind cls a id site env st).2 (h.on (fun h0 => (h1.2.1 h0).1))
  have h3 := tyFind_ok cls hc c (id + a.cnt + b.cnt) (site + a.prs + b.prs) (env ++ [(nm, (tyFind cls b (id + a.cnt) (site + a.prs) env (tyFind cls a id site env st).2).1)]) (tyFind cls b (id + a.cnt) (site + a.prs) env (tyFind cls a id site env st).2).2 ((h.on (fun h0 => (h1.2.1 h0).1)).snoc h2)
  refine ⟨?_, ?_, h3.2.2.trans (h2.2.2.trans h1.2.2)⟩
  ·intro t ht
   simp only [List.mem_cons, List.not_mem_nil, or_false] at ht
   rcases ht with rfl | rfl | rfl
   ·exact h1.1
   ·exact h2.1
   ·exact h3.1
  ·intro h0
   have q3 := h3.2.1 h0
   have q2 := h2.2.1 q3.1
   have q1 := h1.2.1 q2.1
   refine ⟨q1.1, ?_⟩
   intro t ht
   simp only [List.mem_cons, List.not_mem_nil, or_false] at ht
   rcases ht with rfl | rfl | rfl
   ·exact q1.2
   ·exact q2.2
   ·exact q3.2
 | [], _, _, _, st, _ => by simp only [tyLoop]; exact ⟨by simp, fun h => ⟨h, by simp⟩, rfl⟩
 | [_], _, _, _, st, _ => by simp only [tyLoop]; exact ⟨by simp, fun h => ⟨h, by simp⟩, rfl⟩
 | [_, _], _, _, _, st, _ => by simp only [tyLoop]; exact ⟨by simp, fun h => ⟨h, by simp⟩, rfl⟩
 | _ :: _ :: _ :: _ :: _, _, _, _, st, _ => by simp only [tyLoop]; exact ⟨by simp, fun h => ⟨h, by simp⟩, rfl⟩
end
open Go.RowKit
theorem drop_cons (s : ByteArray) (k : Nat) (h : k < s.size) : s.data.toList.drop k = s[k] :: s.data.toList.drop (k + 1) := by
 rw [List.drop_eq_getElem_cons (by simpa using h)]; rfl
theorem drop_end (s : ByteArray) (k : Nat) (h : s.size ≤ k) : s.data.toList.drop k = [] := by
 rw [List.drop_eq_nil_iff]; simpa using h
theorem run_yes (s : ByteArray) (k : Nat) (lo hi : Int) (h : k < s.size) (a : lo ≤ (s[k].toNat : Int)) (b : (s[k].toNat : Int) ≤ hi) :
  run lo hi (s.data.toList.drop k) = run lo hi (s.data.toList.drop (k + 1)) + 1 := by
 rw [drop_cons s k h]; simp [run, inB, a, b]
theorem run_no (s : ByteArray) (k : Nat) (lo hi : Int) (h : k < s.size) (a : (s[k].toNat : Int) < lo ∨ hi < (s[k].toNat : Int)) :
  run lo hi (s.data.toList.drop k) = 0 := by
 rw [drop_cons s k h]
 have : inB lo hi s[k] = false := by unfold inB; rcases a with a | a <;> simp <;> omega
 simp [run, this]
theorem ret_int {k : IntKind} {a b : Int} (h : a = b) : Ending.returned (.int k a) = .returned (.int k b) := by rw [h]
set_option maxHeartbeats 400000 in
theorem row_any (s : ByteArray) (a : Nat) (lo hi : Int) (w : World) (hs : s.size ≤ maxLen) (ha : a ≤ s.size) :
  Calls Tryz.prog 166 #[.string s, .int .i64 a, .int .u8 lo, .int .u8 hi] w fun e w' => e = .returned (.int .i64 (run lo hi (s.data.toList.drop a) : Nat)) ∧ w' = w := by
 unfold maxLen at hs
 go_enter Tryz.func166, Tryz.ntmps166
 go_wp2
 go_loop [9] (fun n => ∃ k : Nat, a + k ≤ s.size ∧ n = .int .i64 k ∧ run lo hi (s.data.toList.drop a) = k + run lo hi (s.data.toList.drop (a + k))) (fun n => s.size - (intOf n).toNat)
 case atStart => exact ⟨0, by omega, rfl, by simp⟩
 case round =>
  obtain ⟨k, hk, rfl, hr⟩ := hrel
  have HR : Hid (run lo hi (s.data.toList.drop a) = k + run lo hi (s.data.toList.drop (a + k))) := hr
  clear hr
  by_cases hlt : a + k < s.size
  ·go_wp2
   ·go_round
    case rel => exact ⟨k + 1, by omega, by go_num, by rw [HR.out, run_yes s (a + k) lo hi hlt ‹_› ‹_›]; rw [Nat.add_assoc a k 1]; omega⟩
    case measure => simp [intOf]; omega
   ·go_ret
    exact ⟨ret_int (by rw [HR.out, run_no s (a + k) lo hi hlt (Or.inr ‹_›)]; simp), rfl⟩
   ·go_ret
    exact ⟨ret_int (by rw [HR.out, run_no s (a + k) lo hi hlt (Or.inl ‹_›)]; simp), rfl⟩
  ·go_wp2
   go_ret
   exact ⟨ret_int (by rw [HR.out, drop_end s (a + k) (by omega)]; simp [run]), rfl⟩
theorem nB_of (s : ByteArray) (m : Nat) : numeralB s.data.toList m = (decide (0 < s.size) && decide (s.size ≤ m) && (decide (s.size = 1) || (s.data.toList.head? != some 48))) := by
 unfold numeralB; simp
theorem head_of (s : ByteArray) (h : 0 < s.size) : s.data.toList.head? = some s[0] := by
 have := drop_cons s 0 h
 simp only [List.drop_zero] at this
 rw [this]; rfl
theorem byte_eq (a b : UInt8) : ((a.toNat : Int) == (b.toNat : Int)) = (a == b) := by
 rw [Bool.eq_iff_iff]
 simp only [beq_iff_eq]
 constructor
 ·intro h; apply UInt8.toNat_inj.1; omega
 ·intro h; rw [h]
theorem byte_ne (a b : UInt8) : ((a.toNat : Int) != (b.toNat : Int)) = (a != b) := by
 simp only [bne, byte_eq]
theorem ret_bool {a b : Bool} (h : a = b) : Ending.returned (.bool a) = .returned (.bool b) := by rw [h]
set_option maxHeartbeats 400000 in
theorem numeral_any (s : ByteArray) (m : Nat) (w : World) (hs : s.size ≤ maxLen) (hm : m ≤ 10) :
  Calls Tryz.prog 167 #[.string s, .int .i64 m] w fun e w' => e = .returned (.bool (numeralB s.data.toList m)) ∧ w' = w := by
 unfold maxLen at hs
 go_enter Tryz.func167, Tryz.ntmps167
 go_wp2
 ·go_ret
  refine ⟨ret_bool ?_, rfl⟩
  rw [nB_of]
  have h1 : s.size = 1 := by omega
  simp [h1]; omega
 ·go_ret
  refine ⟨ret_bool ?_, rfl⟩
  have h0 : 0 < s.size := by assumption
  have h2 : s.size ≤ m := by assumption
  have h1 : ¬ s.size = 1 := by omega
  rw [nB_of, head_of s h0]
  have e1 : ((s.size : Int) == 1) = false := by simp; omega
  have e2 : ((s[0].toNat : Int) != 48) = (s[0] != 48) := byte_ne s[0] 48
  have e3 : (some s[0] != some (48 : UInt8)) = (s[0] != 48) := rfl
  simp only [e1, Bool.false_or, e2, e3]
  simp [h0, h1, h2]
 ·go_ret
  refine ⟨ret_bool ?_, rfl⟩
  have h2 : ¬ s.size ≤ m := by assumption
  rw [nB_of]; simp [h2]
 ·go_ret
  refine ⟨ret_bool ?_, rfl⟩
  have h2 : ¬ 0 < s.size := by assumption
  rw [nB_of]; simp; omega
theorem take_snoc (s : ByteArray) (k : Nat) (h : k < s.size) : s.data.toList.take (k + 1) = s.data.toList.take k ++ [s[k]] := by
 rw [List.take_succ_eq_append_getElem (by simpa using h)]; rfl
theorem pow5 (k : Nat) (h : k ≤ 5) : (10 : Int) ^ k ≤ 100000 := by
 match k, h with
 | 0, _ => decide
 | 1, _ => decide
 | 2, _ => decide
 | 3, _ => decide
 | 4, _ => decide
 | 5, _ => decide
set_option maxHeartbeats 400000 in
theorem value_any (s : ByteArray) (w : World) (hs : s.size ≤ 5) :
  Calls Tryz.prog 134 #[.string s] w fun e w' => e = .returned (.int .i64 (valueL s.data.toList)) ∧ w' = w := by
 go_enter Tryz.func134, Tryz.ntmps134
 go_wp2
 go_loop [3, 4] (fun n i => ∃ k : Nat, k ≤ s.size ∧ i = .int .i64 k ∧ n = .int .i64 (valueL (s.data.toList.take k))) (fun _ i => s.size - (intOf i).toNat)
 case atStart => exact ⟨0, by omega, rfl, rfl⟩
 case round =>
  obtain ⟨k, hk, rfl, rfl⟩ := hrel
  have hb := valueL_bd (s.data.toList.take k)
  have hp := pow5 (s.data.toList.take k).length (by simp; omega)
  obtain ⟨m, hm⟩ : ∃ m, m = valueL (s.data.toList.take k) := ⟨_, rfl⟩
  rw [← hm] at hb
  obtain ⟨hb1, hb2⟩ : -3000000 ≤ m ∧ m ≤ 3000000 := by omega
  clear hp hb
  by_cases hlt : k < s.size
  ·have hsn : valueL (s.data.toList.take (k + 1)) = if s[k] = 35 then m else 10 * m + (s[k].toNat : Int) - 48 := by rw [take_snoc s k hlt, valueL_snoc, hm]
   have HS : Hid _ := hsn
   have hcb : s[k].toNat < 256 := s[k].toNat_lt
   have HC : Hid _ := hcb
   clear hsn hcb
   rw [← hm]
   have HM : Hid _ := hm
   clear hm
   go_wp2
   ·go_round
    case rel =>
     refine ⟨k + 1, by omega, by go_num, ?_⟩
     have e : ((s[k].toNat : Int) != 35) = (s[k] != 35) := byte_ne s[k] 35
     have h1 : ((s[k].toNat : Int) != 35) = true := by assumption
     rw [e] at h1
     rw [HS.out, if_neg (by simpa using h1)]
     have := HC.out
     rw [IntWalk.wrap64_in (s[k].toNat : Int) (by omega), IntWalk.wrap64_in (10 * m + (s[k].toNat : Int)) (by omega), IntWalk.wrap64_in _ (by omega)]
    case measure => simp [intOf]; omega
   ·go_round
    case rel =>
     refine ⟨k + 1, by omega, by go_num, ?_⟩
     have e : ((s[k].toNat : Int) != 35) = (s[k] != 35) := byte_ne s[k] 35
     have h1 : ((s[k].toNat : Int) != 35) = false := by assumption
     rw [e] at h1
     rw [HS.out, if_pos (by simpa using h1)]
    case measure => simp [intOf]; omega
  ·go_wp2
   go_ret
   exact ⟨ret_int (by rw [List.take_of_length_le (by simp; omega)]), rfl⟩
theorem ext_snoc (l : ByteArray) (j k : Nat) (hj : j ≤ k) (hk : k < l.size) : (l.extract j (k + 1)).data.toList = (l.extract j k).data.toList ++ [l[k]] := by
 rw [Lib.extract_data, Lib.extract_data, show k + 1 - j = (k - j) + 1 from by omega, List.take_succ_eq_append_getElem (by simp; omega)]
 congr 2
 rw [List.getElem_drop]
 simp only [show j + (k - j) = k from by omega]
 rfl
theorem amongL_blank (l s : ByteArray) (j k : Nat) (hk : k < l.size) (hb : ((l[k].toNat : Int) == 32) = true) (hne : ((l.extract j k).toList == s.toList) = false) :
  amongL s.data.toList (l.extract j k).data.toList (l.data.toList.drop k) = amongL s.data.toList (l.extract (k + 1) (k + 1)).data.toList (l.data.toList.drop (k + 1)) := by
 rw [drop_cons l k hk]
 have e : ((l[k].toNat : Int) == 32) = (l[k] == 32) := byte_eq l[k] 32
 rw [e] at hb
 rw [Lib.toList_data, Lib.toList_data] at hne
 simp only [amongL]
 rw [if_pos (by simpa using hb), hne, Lib.extract_data (a := k + 1)]
 simp
theorem amongL_hit (l s : ByteArray) (j k : Nat) (hk : k < l.size) (hb : ((l[k].toNat : Int) == 32) = true) (hne : ((l.extract j k).toList == s.toList) = true) :
  amongL s.data.toList (l.extract j k).data.toList (l.data.toList.drop k) = true := by
 rw [drop_cons l k hk]
 have e : ((l[k].toNat : Int) == 32) = (l[k] == 32) := byte_eq l[k] 32
 rw [e] at hb
 rw [Lib.toList_data, Lib.toList_data] at hne
 simp only [amongL]
 rw [if_pos (by simpa using hb), hne]; rfl
theorem amongL_on (l s : ByteArray) (j k : Nat) (hj : j ≤ k) (hk : k < l.size) (hb : ((l[k].toNat : Int) == 32) = false) :
  amongL s.data.toList (l.extract j k).data.toList (l.data.toList.drop k) = amongL s.data.toList (l.extract j (k + 1)).data.toList (l.data.toList.drop (k + 1)) := by
 rw [drop_cons l k hk]
 have e : ((l[k].toNat : Int) == 32) = (l[k] == 32) := byte_eq l[k] 32
 rw [e] at hb
 rw [ext_snoc l j k hj hk]
 simp only [amongL]
 rw [if_neg (by simpa using hb)]
theorem amongL_end (l s : ByteArray) (j : Nat) : amongL s.data.toList (l.extract j l.size).data.toList (l.data.toList.drop l.size) = ((l.extract j l.size).toList == s.toList) := by
 rw [drop_end l l.size (Nat.le_refl _), Lib.toList_data, Lib.toList_data]; rfl
set_option maxHeartbeats 400000 in
theorem among_any (l s : ByteArray) (w : World) (hl : l.size ≤ 100) :
  Calls Tryz.prog 133 #[.string l, .string s] w fun e w' => e = .returned (.bool (amongL s.data.toList [] l.data.toList)) ∧ w' = w := by
 go_enter Tryz.func133, Tryz.ntmps133
 go_wp2
 go_loop [5, 6] (fun a i => ∃ k j : Nat, k ≤ l.size + 1 ∧ j ≤ k ∧ i = .int .i64 k ∧ a = .int .i64 j ∧
   amongL s.data.toList [] l.data.toList = if k ≤ l.size then amongL s.data.toList (l.extract j k).data.toList (l.data.toList.drop k) else false) (fun _ i => l.size + 1 - (intOf i).toNat)
 case atStart => exact ⟨0, 0, by omega, by omega, rfl, rfl, by simp⟩
 case round =>
  obtain ⟨k, j, hk, hj, rfl, rfl, hr⟩ := hrel
  have HR : Hid _ := hr
  clear hr
  by_cases hlt : k < l.size
  ·have hkl : (k == l.size) = false := by simp; omega
   by_cases hb : ((l[k].toNat : Int) == 32) = true
   ·go_wp2
    ·go_ret
     refine ⟨ret_bool ?_, rfl⟩
     rw [HR.out, if_pos (by omega), amongL_hit l s j k hlt hb ‹_›]
    ·go_round
     case rel => exact ⟨k + 1, k + 1, by omega, by omega, by go_num, by go_num, by rw [HR.out, if_pos (by omega), if_pos (by omega)]; exact amongL_blank l s j k hlt hb ‹_›⟩
     case measure => simp [intOf]; omega
   ·have hb' : ((l[k].toNat : Int) == 32) = false := by simpa using hb
    clear hb
    go_wp2
    go_round
    case rel => exact ⟨k + 1, j, by omega, by omega, by go_num, by go_num, by rw [HR.out, if_pos (by omega), if_pos (by omega)]; exact amongL_on l s j k hj hlt hb'⟩
    case measure => simp [intOf]; omega
  ·by_cases he : k = l.size
   ·subst he
    have HE := amongL_end l s j
    have HE' : Hid _ := HE
    clear HE
    go_wp2
    ·go_ret
     refine ⟨ret_bool ?_, rfl⟩
     rw [HR.out, if_pos (by omega), HE'.out]; symm; assumption
    ·go_round
     case rel => exact ⟨l.size + 1, l.size + 1, by omega, by omega, by go_num, by go_num, by rw [HR.out, if_pos (by omega), if_neg (by omega), HE'.out]; assumption⟩
     case measure => simp [intOf]
   ·go_wp2
    go_ret
    exact ⟨ret_bool (by rw [HR.out, if_neg (by omega)]), rfl⟩
set_option maxHeartbeats 400000 in
theorem size_any (s : ByteArray) (w : World) (hs : s.size ≤ maxLen) :
  Calls Tryz.prog 114 #[.string s] w fun e w' => e = .returned (.int .i64 (sizeL s.data.toList : Nat)) ∧ w' = w := by
 unfold maxLen at hs
 go_enter Tryz.func114, Tryz.ntmps114
 go_wp2
 go_loop [3, 4] (fun n i => ∃ k : Nat, k ≤ s.size ∧ i = .int .i64 k ∧ n = .int .i64 (sizeL (s.data.toList.take k) : Nat)) (fun _ i => s.size - (intOf i).toNat)
 case atStart => exact ⟨0, by omega, rfl, rfl⟩
 case round =>
  obtain ⟨k, hk, rfl, rfl⟩ := hrel
  have hb := sizeL_le (s.data.toList.take k)
  have hb' : sizeL (s.data.toList.take k) ≤ k := by simp at hb; omega
  clear hb
  by_cases hlt : k < s.size
  ·have hsn : sizeL (s.data.toList.take (k + 1)) = sizeL (s.data.toList.take k) + if s[k] == 60 then 1 else 0 := by rw [take_snoc s k hlt, sizeL_snoc]
   have e : ((s[k].toNat : Int) == 60) = (s[k] == 60) := byte_eq s[k] 60
   have HS : Hid _ := hsn
   have HE : Hid _ := e
   clear hsn e
   go_wp2
   ·go_round
    case rel =>
     refine ⟨k + 1, by omega, by go_num, ?_⟩
     have h1 : ((s[k].toNat : Int) == 60) = true := by assumption
     rw [HE.out] at h1
     rw [HS.out, if_pos h1]; go_num
    case measure => simp [intOf]; omega
   ·go_round
    case rel =>
     refine ⟨k + 1, by omega, by go_num, ?_⟩
     have h1 : ((s[k].toNat : Int) == 60) = false := by assumption
     rw [HE.out] at h1
     rw [HS.out, if_neg (by rw [h1]; simp)]; go_num
    case measure => simp [intOf]; omega
  ·go_wp2
   go_ret
   exact ⟨ret_int (by rw [List.take_of_length_le (by simp; omega)]), rfl⟩
end Go.Proofs.YtpicaknklgccoaaGreatDoor
