import Derived.Lib.ItoaNum
import Derived.Test.YtglkpkmdoohdcaaDoorMd
/- Plain mathematics: types, and their texts. -/
namespace Go.Proofs.YtglkpkmdoohdcaaDoor
open Go.Lib (decDigits)

inductive Ty where
  | n
  | p (r : Nat) (a b : Ty)
  deriving DecidableEq

def Ty.txt : Ty → List UInt8
  | .n => [110]
  | .p r a b => 60 :: (decDigits r ++ 58 :: (a.txt ++ (b.txt ++ [62])))
def Ty.size : Ty → Nat
  | .n => 0
  | .p _ a b => a.size + b.size + 1
/-- without regions -/
def Ty.bare : Ty → Ty
  | .n => .n
  | .p _ a b => .p 0 a.bare b.bare
def Ty.plain : Ty → List UInt8
  | .n => [110]
  | .p _ a b => 60 :: (a.plain ++ (b.plain ++ [62]))

def digitB (c : UInt8) : Bool := decide (48 ≤ c.toNat) && decide (c.toNat ≤ 57)
theorem dec_digit (u : Nat) : ∀ c ∈ decDigits u, digitB c = true := by
  induction u using Nat.strongRecOn with
  | _ u ih =>
    rw [decDigits]
    have key : ∀ k, k < 10 → digitB (UInt8.ofNat (48 + k)) = true := by
      intro k hk
      unfold digitB
      have : (UInt8.ofNat (48 + k)).toNat = 48 + k := by simp; omega
      rw [this]; simp; omega
    split
    · intro c hc; rw [List.mem_singleton] at hc; subst hc; exact key u (by omega)
    · intro c hc
      rw [List.mem_append] at hc
      rcases hc with hc | hc
      · exact ih (u / 10) (by omega) c hc
      · rw [List.mem_singleton] at hc; subst hc; exact key _ (by omega)

theorem digit_ne {c : UInt8} (h : digitB c = true) : c ≠ 58 ∧ c ≠ 60 ∧ c ≠ 62 ∧ c ≠ 110 := by
  unfold digitB at h
  simp only [Bool.and_eq_true, decide_eq_true_eq] at h
  refine ⟨?_, ?_, ?_, ?_⟩ <;> (intro e; subst e; revert h; decide)

/-- how many letters the type has that begins here, when so many are open -/
def endL : Int → List UInt8 → Nat
  | _, [] => 0
  | o, c :: r =>
    let o' := if c = 60 then o + 1 else if c = 62 then o - 1 else o
    if o' = 0 ∧ (c = 110 ∨ c = 62) then 1 else 1 + endL o' r

theorem endL_lt (o : Int) (r : List UInt8) : endL o (60 :: r) = 1 + endL (o + 1) r := by simp [endL]
theorem endL_gt0 (r : List UInt8) : endL 1 (62 :: r) = 1 := by simp [endL]
theorem endL_gt (o : Int) (r : List UInt8) (h : o ≠ 1) : endL o (62 :: r) = 1 + endL (o - 1) r := by
  have h' : ¬ (o - 1 = 0) := by omega
  simp [endL, h']
theorem endL_n0 (r : List UInt8) : endL 0 (110 :: r) = 1 := by simp [endL]
theorem endL_n (o : Int) (r : List UInt8) (h : o ≠ 0) : endL o (110 :: r) = 1 + endL o r := by
  simp [endL, h]
theorem endL_skip (o : Int) (c : UInt8) (r : List UInt8) (h1 : c ≠ 60) (h2 : c ≠ 62) (h3 : c ≠ 110) : endL o (c :: r) = 1 + endL o r := by
  simp [endL, h1, h2, h3]

theorem endL_digits (o : Int) (l r : List UInt8) (h : ∀ c ∈ l, digitB c = true) : endL o (l ++ r) = l.length + endL o r := by
  induction l with
  | nil => simp
  | cons c l ih =>
    have hc := digit_ne (h c List.mem_cons_self)
    rw [List.cons_append, endL_skip o c _ hc.2.1 hc.2.2.1 hc.2.2.2, ih (fun c hc => h c (List.mem_cons_of_mem _ hc))]
    simp; omega

theorem endL_open (t : Ty) : ∀ (o : Int) (r : List UInt8), 0 < o → endL o (t.txt ++ r) = t.txt.length + endL o r := by
  induction t with
  | n => intro o r ho; simp only [Ty.txt, List.cons_append, List.nil_append]; rw [endL_n _ _ (by omega)]; simp
  | p q a b iha ihb =>
    intro o r ho
    simp only [Ty.txt, List.cons_append, List.append_assoc]
    rw [endL_lt, endL_digits _ _ _ (dec_digit q), endL_skip _ 58 _ (by decide) (by decide) (by decide), iha _ _ (by omega), ihb _ _ (by omega), List.nil_append, endL_gt _ _ (by omega)]
    rw [show o + 1 - 1 = o from by omega]
    simp; omega

theorem endL_txt (t : Ty) (r : List UInt8) : endL 0 (t.txt ++ r) = t.txt.length := by
  cases t with
  | n => simp [Ty.txt, endL]
  | p q a b =>
    simp only [Ty.txt, List.cons_append, List.append_assoc]
    rw [endL_lt, endL_digits _ _ _ (dec_digit q), endL_skip _ 58 _ (by decide) (by decide) (by decide), endL_open a _ _ (by omega), endL_open b _ _ (by omega), List.nil_append, Int.zero_add, endL_gt0]
    simp; omega

theorem size_digits (l : List UInt8) (h : ∀ c ∈ l, digitB c = true) : sizeL l = 0 := by
  induction l with
  | nil => rfl
  | cons c l ih =>
    have hc := digit_ne (h c List.mem_cons_self)
    have := ih (fun c hc => h c (List.mem_cons_of_mem _ hc))
    unfold sizeL at this ⊢
    rw [List.filter_cons, if_neg (by simpa using hc.2.1)]; exact this
theorem sizeL_append (a b : List UInt8) : sizeL (a ++ b) = sizeL a + sizeL b := by simp [sizeL]
theorem sizeL_cons (c : UInt8) (l : List UInt8) : sizeL (c :: l) = (if c = 60 then 1 else 0) + sizeL l := by
  unfold sizeL; rw [List.filter_cons]; by_cases h : c = 60 <;> simp [h]; omega
theorem size_txt (t : Ty) : sizeL t.txt = t.size := by
  induction t with
  | n => rfl
  | p q a b iha ihb =>
    simp only [Ty.txt, Ty.size, sizeL_cons, sizeL_append, iha, ihb, size_digits _ (dec_digit q)]
    have : sizeL [] = 0 := rfl
    rw [this]; simp; omega

theorem txt_ne (t : Ty) : t.txt ≠ [] := by cases t <;> simp [Ty.txt]
theorem txt_n (t : Ty) : (t.txt = [110]) ↔ t = .n := by cases t <;> simp [Ty.txt]

/-- plain texts tell types without regions apart -/
theorem plain_inj_aux (t : Ty) : ∀ (u : Ty) (r r' : List UInt8), t.plain ++ r = u.plain ++ r' → t.bare = u.bare ∧ r = r' := by
  induction t with
  | n => intro u r r' h; cases u with
    | n => simp [Ty.plain] at h; exact ⟨rfl, h⟩
    | p q a b => simp [Ty.plain] at h
  | p q a b iha ihb => intro u r r' h; cases u with
    | n => simp [Ty.plain] at h
    | p q' a' b' =>
      simp only [Ty.plain, List.cons_append, List.cons.injEq, List.append_assoc, true_and] at h
      obtain ⟨h1, h2⟩ := iha _ _ _ h
      obtain ⟨h3, h4⟩ := ihb _ _ _ h2
      simp only [List.nil_append, List.cons.injEq, true_and] at h4
      exact ⟨by simp [Ty.bare, h1, h3], h4⟩
theorem plain_inj (t u : Ty) : (t.plain = u.plain) ↔ t.bare = u.bare := by
  constructor
  · intro h; exact (plain_inj_aux t u [] [] (by rw [h])).1
  · intro h
    have : ∀ t : Ty, t.plain = t.bare.plain := by
      intro t; induction t with
      | n => rfl
      | p q a b iha ihb => simp [Ty.plain, Ty.bare, ← iha, ← ihb]
    rw [this t, this u, h]
end Go.Proofs.YtglkpkmdoohdcaaDoor
