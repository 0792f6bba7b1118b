/- Plain mathematics: the letters, the tokens, the form and the tree of a text. Nothing of the program. -/
namespace Go.Proofs.YtglkpkmdoohdcaaDoor

def inB (lo hi : Int) (c : UInt8) : Bool := decide (lo ≤ (c.toNat : Int)) && decide ((c.toNat : Int) ≤ hi)
/-- how many letters from the head on lie from lo to hi -/
def run (lo hi : Int) : List UInt8 → Nat
  | [] => 0
  | c :: r => if inB lo hi c then run lo hi r + 1 else 0

theorem run_le (lo hi : Int) (l : List UInt8) : run lo hi l ≤ l.length := by
  induction l with
  | nil => simp [run]
  | cons c r ih => simp only [run]; split <;> simp <;> omega

/-- are these digits a NUMBER of at most so many? -/
def numeralB (l : List UInt8) (most : Nat) : Bool := decide (0 < l.length) && decide (l.length ≤ most) && (decide (l.length = 1) || (l.head? != some 48))

/-- of a NUMBER, or of a REGION's -/
def valueL (l : List UInt8) : Int := l.foldl (fun n c => if c = 35 then n else 10 * n + (c.toNat : Int) - 48) 0

theorem valueL_snoc (l : List UInt8) (c : UInt8) : valueL (l ++ [c]) = if c = 35 then valueL l else 10 * valueL l + (c.toNat : Int) - 48 := by
  unfold valueL; rw [List.foldl_append]; rfl

theorem fold_bd (l : List UInt8) : ∀ (j : Nat) (a : Int), -(30 * 10 ^ j - 30) ≤ a → a ≤ 30 * 10 ^ j - 30 →
    -(30 * 10 ^ (j + l.length) - 30) ≤ l.foldl (fun n c => if c = 35 then n else 10 * n + (c.toNat : Int) - 48) a ∧ l.foldl (fun n c => if c = 35 then n else 10 * n + (c.toNat : Int) - 48) a ≤ 30 * 10 ^ (j + l.length) - 30 := by
  induction l with
  | nil => intro j a h1 h2; exact ⟨h1, h2⟩
  | cons c r ih =>
    intro j a h1 h2
    have hp : 0 < (10 : Int) ^ j := Int.pow_pos (by omega)
    have hc : c.toNat < 256 := c.toNat_lt
    have e : (10 : Int) ^ (j + 1) = 10 * 10 ^ j := by rw [Int.pow_succ]; omega
    have := ih (j + 1) (if c = 35 then a else 10 * a + (c.toNat : Int) - 48) (by rw [e]; split <;> omega) (by rw [e]; split <;> omega)
    rw [List.length_cons, show j + (r.length + 1) = j + 1 + r.length from by omega]
    exact this

theorem valueL_bd (l : List UInt8) : -(30 * 10 ^ l.length - 30) ≤ valueL l ∧ valueL l ≤ 30 * 10 ^ l.length - 30 := by
  have := fold_bd l 0 0 (by decide) (by decide)
  simpa [valueL] using this

/-- does the word s stand in a row of words with blanks between them? -/
def amongL (s : List UInt8) : List UInt8 → List UInt8 → Bool
  | cur, [] => cur == s
  | cur, c :: r => if c = 32 then (cur == s) || amongL s [] r else amongL s (cur ++ [c]) r

/-- how many pairs are in a type -/
def sizeL (l : List UInt8) : Nat := (l.filter fun c => c == 60).length
theorem sizeL_snoc (l : List UInt8) (c : UInt8) : sizeL (l ++ [c]) = sizeL l + if c == 60 then 1 else 0 := by
  unfold sizeL; rw [List.filter_append]; cases h : c == 60 <;> simp [h]
theorem sizeL_le (l : List UInt8) : sizeL l ≤ l.length := by unfold sizeL; exact List.length_filter_le _ _


inductive Kw | let_ | pair | fst | snd | if_ | add | sub | less | loop | new
  deriving DecidableEq, Repr
def Kw.bytes : Kw → List UInt8
  | .let_ => [108, 101, 116]
  | .pair => [112, 97, 105, 114]
  | .fst => [102, 115, 116]
  | .snd => [115, 110, 100]
  | .if_ => [105, 102]
  | .add => [97, 100, 100]
  | .sub => [115, 117, 98]
  | .less => [108, 101, 115, 115]
  | .loop => [108, 111, 111, 112]
  | .new => [110, 101, 119]
def kwOf (l : List UInt8) : Option Kw :=
  if l = Kw.let_.bytes then some .let_ else if l = Kw.pair.bytes then some .pair else if l = Kw.fst.bytes then some .fst else
  if l = Kw.snd.bytes then some .snd else if l = Kw.if_.bytes then some .if_ else if l = Kw.add.bytes then some .add else
  if l = Kw.sub.bytes then some .sub else if l = Kw.less.bytes then some .less else if l = Kw.loop.bytes then some .loop else
  if l = Kw.new.bytes then some .new else none
theorem kwOf_some {l : List UInt8} {k : Kw} (h : kwOf l = some k) : l = k.bytes := by
  unfold kwOf at h
  repeat' (split at h; · simp only [Option.some.injEq] at h; subst h; assumption)
  simp at h
theorem kwOf_bytes (k : Kw) : kwOf k.bytes = some k := by cases k <;> decide

/-- the class of a token -/
inductive Cl | opn | cls | nam | num | reg | bad | kw (k : Kw)
  deriving DecidableEq, Repr
def Cl.bytes : Cl → List UInt8
  | .opn => [40]
  | .cls => [41]
  | .nam => [78, 65, 77, 69]
  | .num => [78, 85, 77, 66, 69, 82]
  | .reg => [82, 69, 71, 73, 79, 78]
  | .bad => [66, 65, 68]
  | .kw k => k.bytes

def wordCl (l : List UInt8) (n : Nat) : Cl := match kwOf l with
  | some k => .kw k
  | none => if n ≤ 8 then .nam else .bad
/-- the token at the head of a text: how many letters, and its class -/
def tokenOf (l : List UInt8) : Nat × Cl :=
  if 0 < run 97 122 l then
    (run 97 122 l, wordCl (l.take (run 97 122 l)) (run 97 122 l))
  else if 0 < run 48 57 l then
    (run 48 57 l, if numeralB (l.take (run 48 57 l)) 4 then .num else .bad)
  else match l with
    | [] => (1, .bad)
    | c :: r =>
      if c = 35 then (run 48 57 r + 1, if numeralB (r.take (run 48 57 r)) 3 then .reg else .bad)
      else (1, if c = 40 then .opn else if c = 41 then .cls else .bad)

theorem tokenOf_pos (l : List UInt8) : 0 < (tokenOf l).1 := by
  unfold tokenOf
  split
  · assumption
  · split
    · assumption
    · split
      · simp
      · split <;> simp

theorem tokenOf_le (l : List UInt8) (h : l ≠ []) : (tokenOf l).1 ≤ l.length := by
  unfold tokenOf
  split
  · exact run_le _ _ _
  · split
    · exact run_le _ _ _
    · split
      · exact absurd rfl h
      · rename_i c r _ _
        split
        · have := run_le 48 57 r; simp; omega
        · simp

theorem among_kept (s : List UInt8) : amongL s [] [108, 101, 116, 32, 112, 97, 105, 114, 32, 102, 115, 116, 32, 115, 110, 100, 32, 105, 102, 32, 97, 100, 100, 32, 115, 117, 98, 32, 108, 101, 115, 115, 32, 108, 111, 111, 112, 32, 110, 101, 119] = (kwOf s).isSome := by
  have e : amongL s [] [108, 101, 116, 32, 112, 97, 105, 114, 32, 102, 115, 116, 32, 115, 110, 100, 32, 105, 102, 32, 97, 100, 100, 32, 115, 117, 98, 32, 108, 101, 115, 115, 32, 108, 111, 111, 112, 32, 110, 101, 119]
    = ((Kw.let_.bytes == s) || ((Kw.pair.bytes == s) || ((Kw.fst.bytes == s) || ((Kw.snd.bytes == s) || ((Kw.if_.bytes == s) || ((Kw.add.bytes == s) || ((Kw.sub.bytes == s) || ((Kw.less.bytes == s) || ((Kw.loop.bytes == s) || (Kw.new.bytes == s)))))))))) := rfl
  rw [e]
  cases h : kwOf s with
  | some k => have := kwOf_some h; subst this; cases k <;> decide
  | none =>
    have hn : ∀ k : Kw, (k.bytes == s) = false := fun k => by
      rw [beq_eq_false_iff_ne]; intro e; rw [← e, kwOf_bytes] at h; cases h
    simp only [hn]; rfl

/-- a token: its letters, its place, its class -/
structure Tk where
  s : List UInt8
  at_ : Nat
  c : Cl
  deriving Repr

def blankB (c : UInt8) : Bool := c == 32 || c == 10
/-- the tokens of a text that begins at a place -/
def toks : Nat → Nat → List UInt8 → List Tk
  | 0, _, _ => []
  | _ + 1, _, [] => []
  | f + 1, p, c :: r =>
    if blankB c then toks f (p + 1) r
    else ⟨(c :: r).take (tokenOf (c :: r)).1, p, (tokenOf (c :: r)).2⟩ :: toks f (p + (tokenOf (c :: r)).1) ((c :: r).drop (tokenOf (c :: r)).1)

theorem toks_fuel : ∀ (f g p : Nat) (l : List UInt8), l.length ≤ f → l.length ≤ g → toks f p l = toks g p l := by
  intro f
  induction f with
  | zero => intro g p l h1 h2; have : l = [] := List.length_eq_zero_iff.1 (by omega); subst this; cases g <;> rfl
  | succ f ih =>
    intro g p l h1 h2
    cases l with
    | nil => cases g <;> rfl
    | cons c r =>
      cases g with
      | zero => simp at h2
      | succ g =>
        simp only [List.length_cons] at h1 h2
        simp only [toks]
        have hp := tokenOf_pos (c :: r)
        split
        · exact ih g _ r (by omega) (by omega)
        · rw [ih g _ _ (by simp; omega) (by simp; omega)]

def tokens (l : List UInt8) : List Tk := toks l.length 0 l

theorem toks_blank (f p : Nat) (c : UInt8) (r : List UInt8) (h : blankB c = true) : toks (f + 1) p (c :: r) = toks f (p + 1) r := by simp [toks, h]
theorem toks_tok (f p : Nat) (c : UInt8) (r : List UInt8) (h : blankB c = false) : toks (f + 1) p (c :: r) = ⟨(c :: r).take (tokenOf (c :: r)).1, p, (tokenOf (c :: r)).2⟩ :: toks f (p + (tokenOf (c :: r)).1) ((c :: r).drop (tokenOf (c :: r)).1) := by simp [toks, h]
end Go.Proofs.YtglkpkmdoohdcaaDoor
