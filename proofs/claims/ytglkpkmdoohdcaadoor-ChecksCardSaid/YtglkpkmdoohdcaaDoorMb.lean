import Derived.Test.YtglkpkmdoohdcaaDoorMa
/- Plain mathematics: the form of a program, by a pile of what must still come. -/
namespace Go.Proofs.YtglkpkmdoohdcaaDoor

inductive Wt | e | word | close | name | region
  deriving DecidableEq, Repr
def Wt.bytes : Wt → List UInt8
  | .e => [101]
  | .word => [119, 111, 114, 100]
  | .close => [41]
  | .name => [78, 65, 77, 69]
  | .region => [82, 69, 71, 73, 79, 78]

/-- what must come behind a kept word, the first first -/
def wantsK (k : Kw) (placed : Bool) : List Wt :=
  match k, placed with
  | .let_, _ => [.name, .e, .e, .close]
  | .loop, _ => [.e, .name, .e, .e, .close]
  | .pair, true => [.region, .e, .e, .close]
  | .new, true => [.region, .e, .close]
  | .pair, false => [.e, .e, .close]
  | .add, _ => [.e, .e, .close]
  | .sub, _ => [.e, .e, .close]
  | .less, _ => [.e, .e, .close]
  | .fst, _ => [.e, .close]
  | .snd, _ => [.e, .close]
  | .if_, _ => [.e, .e, .e, .close]
  | .new, false => []
def wantsC (c : Cl) (placed : Bool) : List Wt := match c with
  | .kw k => wantsK k placed
  | _ => []

/-- the place of what can't stand; none: it is a program -/
def formRun (placed : Bool) (len : Nat) : List Tk → List Wt → Option Nat
  | [], [] => none
  | [], _ :: _ => some len
  | t :: _, [] => some t.at_
  | t :: ts, .e :: p => match t.c with
    | .opn => formRun placed len ts (.word :: p)
    | .num => formRun placed len ts p
    | .nam => formRun placed len ts p
    | _ => some t.at_
  | t :: ts, .word :: p => if wantsC t.c placed = [] then some t.at_ else formRun placed len ts (wantsC t.c placed ++ p)
  | t :: ts, .close :: p => if t.c = .cls then formRun placed len ts p else some t.at_
  | t :: ts, .name :: p => if t.c = .nam then formRun placed len ts p else some t.at_
  | t :: ts, .region :: p => if t.c = .reg then formRun placed len ts p else some t.at_

def formOf (placed : Bool) (l : List UInt8) : Option Nat := formRun placed l.length (tokens l) [.e]

theorem wantsC_len (c : Cl) (placed : Bool) : (wantsC c placed).length ≤ 5 := by
  cases c with
  | kw k => cases k <;> cases placed <;> decide
  | _ => simp [wantsC]

theorem toks_len : ∀ (f p : Nat) (l : List UInt8), (toks f p l).length ≤ l.length := by
  intro f
  induction f with
  | zero => intro p l; simp [toks]
  | succ f ih =>
    intro p l
    cases l with
    | nil => simp [toks]
    | cons c r =>
      simp only [toks]
      split
      · have := ih (p + 1) r; simp; omega
      · have hp := tokenOf_pos (c :: r)
        have := ih (p + (tokenOf (c :: r)).1) ((c :: r).drop (tokenOf (c :: r)).1)
        simp only [List.length_drop, List.length_cons] at this
        simp only [List.length_cons]; omega
end Go.Proofs.YtglkpkmdoohdcaaDoor
