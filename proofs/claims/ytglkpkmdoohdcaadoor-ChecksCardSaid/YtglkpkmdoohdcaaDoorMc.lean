import Derived.Test.YtglkpkmdoohdcaaDoorMb
/- Plain mathematics: the tree of a program, and how the pile of Mb comes to it. -/
namespace Go.Proofs.YtglkpkmdoohdcaaDoor

inductive PT where
  | num (p : Nat) (s : List UInt8)
  | name (p : Nat) (s : List UInt8)
  | node (p : Nat) (k : Kw) (nm rg : List UInt8) (kids : List PT)

mutual
def PT.cnt : PT → Nat
  | .num _ _ => 1
  | .name _ _ => 1
  | .node _ _ _ _ kids => 1 + cntL kids
def cntL : List PT → Nat
  | [] => 0
  | t :: r => t.cnt + cntL r
end

mutual
def PT.prs : PT → Nat
  | .num _ _ => 0
  | .name _ _ => 0
  | .node _ k _ _ kids => (if k = .pair then 1 else 0) + prsL kids
def prsL : List PT → Nat
  | [] => 0
  | t :: r => t.prs + prsL r
end

mutual
inductive PE (placed : Bool) : List Tk → PT → List Tk → Prop
  | num {t : Tk} {r : List Tk} : t.c = .num → PE placed (t :: r) (.num t.at_ t.s) r
  | name {t : Tk} {r : List Tk} : t.c = .nam → PE placed (t :: r) (.name t.at_ t.s) r
  | node {t u : Tk} {k : Kw} {r r' : List Tk} {nm rg : List UInt8} {kids : List PT} : t.c = .opn → u.c = .kw k → wantsK k placed ≠ [] →
      PW placed (wantsK k placed) r nm rg kids r' → PE placed (t :: u :: r) (.node t.at_ k nm rg kids) r'
inductive PW (placed : Bool) : List Wt → List Tk → List UInt8 → List UInt8 → List PT → List Tk → Prop
  | nil {r : List Tk} : PW placed [] r [] [] [] r
  | close {t : Tk} {ws : List Wt} {r r' : List Tk} {nm rg : List UInt8} {kids : List PT} : t.c = .cls → PW placed ws r nm rg kids r' → PW placed (.close :: ws) (t :: r) nm rg kids r'
  | name {t : Tk} {ws : List Wt} {r r' : List Tk} {nm rg : List UInt8} {kids : List PT} : t.c = .nam → PW placed ws r nm rg kids r' → PW placed (.name :: ws) (t :: r) t.s rg kids r'
  | region {t : Tk} {ws : List Wt} {r r' : List Tk} {nm rg : List UInt8} {kids : List PT} : t.c = .reg → PW placed ws r nm rg kids r' → PW placed (.region :: ws) (t :: r) nm t.s kids r'
  | e {e : PT} {ws : List Wt} {l r r' : List Tk} {nm rg : List UInt8} {kids : List PT} : PE placed l e r → PW placed ws r nm rg kids r' → PW placed (.e :: ws) l nm rg (e :: kids) r'
end

mutual
theorem PE.sound {placed : Bool} {len : Nat} : ∀ {l : List Tk} {e : PT} {r : List Tk}, PE placed l e r → ∀ p, formRun placed len l (.e :: p) = formRun placed len r p
  | _, _, _, .num h, p => by simp [formRun, h]
  | _, _, _, .name h, p => by simp [formRun, h]
  | _, _, _, .node (k := k) h1 h2 h3 h4, p => by
    have := PW.sound (len := len) h4 p
    simp only [formRun, h1, h2, wantsC]
    rw [if_neg h3]; exact this
theorem PW.sound {placed : Bool} {len : Nat} : ∀ {ws : List Wt} {l : List Tk} {nm rg : List UInt8} {kids : List PT} {r : List Tk}, PW placed ws l nm rg kids r → ∀ p, formRun placed len l (ws ++ p) = formRun placed len r p
  | _, _, _, _, _, _, .nil, p => rfl
  | _, _, _, _, _, _, .close h h1, p => by have := PW.sound (len := len) h1 p; simp only [List.cons_append, formRun, if_pos h]; exact this
  | _, _, _, _, _, _, .name h h1, p => by have := PW.sound (len := len) h1 p; simp only [List.cons_append, formRun, if_pos h]; exact this
  | _, _, _, _, _, _, .region h h1, p => by have := PW.sound (len := len) h1 p; simp only [List.cons_append, formRun, if_pos h]; exact this
  | _, _, _, _, _, _, .e (ws := ws) h h1, p => by have := PE.sound (len := len) h (ws ++ p); rw [List.cons_append, this]; exact PW.sound h1 p
end

mutual
theorem PE.len {placed : Bool} : ∀ {l : List Tk} {e : PT} {r : List Tk}, PE placed l e r → r.length < l.length
  | _, _, _, .num _ => by simp
  | _, _, _, .name _ => by simp
  | _, _, _, .node _ _ _ h4 => by have := PW.len h4; simp; omega
theorem PW.len {placed : Bool} : ∀ {ws : List Wt} {l : List Tk} {nm rg : List UInt8} {kids : List PT} {r : List Tk}, PW placed ws l nm rg kids r → r.length ≤ l.length
  | _, _, _, _, _, _, .nil => Nat.le_refl _
  | _, _, _, _, _, _, .close _ h1 => by have := PW.len h1; simp; omega
  | _, _, _, _, _, _, .name _ h1 => by have := PW.len h1; simp; omega
  | _, _, _, _, _, _, .region _ h1 => by have := PW.len h1; simp; omega
  | _, _, _, _, _, _, .e h h1 => by have := PE.len h; have := PW.len h1; omega
end

theorem wantsK_word (k : Kw) (placed : Bool) : Wt.word ∉ wantsK k placed := by cases k <;> cases placed <;> decide

theorem parse_total (placed : Bool) (len : Nat) : ∀ n : Nat,
    (∀ l : List Tk, l.length ≤ n → (∃ e r, PE placed l e r) ∨ (∃ q, ∀ p, formRun placed len l (.e :: p) = some q)) ∧
    (∀ ws : List Wt, Wt.word ∉ ws → ∀ l : List Tk, l.length ≤ n → (∃ nm rg kids r, PW placed ws l nm rg kids r) ∨ (∃ q, ∀ p, formRun placed len l (ws ++ p) = some q)) := by
  intro n
  induction n with
  | zero =>
    have hE : ∀ l : List Tk, l.length ≤ 0 → (∃ e r, PE placed l e r) ∨ (∃ q, ∀ p, formRun placed len l (.e :: p) = some q) := by
      intro l hl
      have : l = [] := List.length_eq_zero_iff.1 (by omega)
      subst this
      exact Or.inr ⟨len, fun p => rfl⟩
    refine ⟨hE, ?_⟩
    intro ws hw l hl
    have : l = [] := List.length_eq_zero_iff.1 (by omega)
    subst this
    cases ws with
    | nil => exact Or.inl ⟨_, _, _, _, .nil⟩
    | cons x ws => exact Or.inr ⟨len, fun p => rfl⟩
  | succ n ih =>
    have hE : ∀ l : List Tk, l.length ≤ n + 1 → (∃ e r, PE placed l e r) ∨ (∃ q, ∀ p, formRun placed len l (.e :: p) = some q) := by
      intro l hl
      cases l with
      | nil => exact Or.inr ⟨len, fun p => rfl⟩
      | cons t r =>
        cases hc : t.c with
        | num => exact Or.inl ⟨_, _, .num hc⟩
        | nam => exact Or.inl ⟨_, _, .name hc⟩
        | opn =>
          cases r with
          | nil => exact Or.inr ⟨len, fun p => by simp [formRun, hc]⟩
          | cons u r =>
            by_cases hw : wantsC u.c placed = []
            · exact Or.inr ⟨u.at_, fun p => by simp [formRun, hc, hw]⟩
            · cases hu : u.c with
              | kw k =>
                rw [hu] at hw
                simp only [List.length_cons] at hl
                rcases ih.2 (wantsK k placed) (wantsK_word k placed) r (by omega) with ⟨nm, rg, kids, r', h⟩ | ⟨q, h⟩
                · exact Or.inl ⟨_, _, .node hc hu hw h⟩
                · refine Or.inr ⟨q, fun p => ?_⟩
                  have := h p
                  simp only [formRun, hc, hu]
                  rw [if_neg hw]; exact this
              | _ => rw [hu] at hw; exact absurd rfl hw
        | _ => exact Or.inr ⟨t.at_, fun p => by simp [formRun, hc]⟩
    refine ⟨hE, ?_⟩
    intro ws
    induction ws with
    | nil => intro _ l _; exact Or.inl ⟨_, _, _, _, .nil⟩
    | cons x ws ihw =>
      intro hw l hl
      have hw' : Wt.word ∉ ws := fun h => hw (List.mem_cons_of_mem _ h)
      cases x with
      | word => exact absurd List.mem_cons_self hw
      | e =>
        rcases hE l hl with ⟨e, r, h⟩ | ⟨q, h⟩
        · rcases ihw hw' r (by have := h.len; omega) with ⟨nm, rg, kids, r', h'⟩ | ⟨q, h'⟩
          · exact Or.inl ⟨_, _, _, _, .e h h'⟩
          · exact Or.inr ⟨q, fun p => by rw [List.cons_append, h.sound]; exact h' p⟩
        · exact Or.inr ⟨q, fun p => h _⟩
      | close =>
        cases l with
        | nil => exact Or.inr ⟨len, fun p => rfl⟩
        | cons t r =>
          by_cases hc : t.c = .cls
          · rcases ihw hw' r (by simp at hl; omega) with ⟨nm, rg, kids, r', h'⟩ | ⟨q, h'⟩
            · exact Or.inl ⟨_, _, _, _, .close hc h'⟩
            · exact Or.inr ⟨q, fun p => by simp only [List.cons_append, formRun, if_pos hc]; exact h' p⟩
          · exact Or.inr ⟨t.at_, fun p => by simp only [List.cons_append, formRun, if_neg hc]⟩
      | name =>
        cases l with
        | nil => exact Or.inr ⟨len, fun p => rfl⟩
        | cons t r =>
          by_cases hc : t.c = .nam
          · rcases ihw hw' r (by simp at hl; omega) with ⟨nm, rg, kids, r', h'⟩ | ⟨q, h'⟩
            · exact Or.inl ⟨_, _, _, _, .name hc h'⟩
            · exact Or.inr ⟨q, fun p => by simp only [List.cons_append, formRun, if_pos hc]; exact h' p⟩
          · exact Or.inr ⟨t.at_, fun p => by simp only [List.cons_append, formRun, if_neg hc]⟩
      | region =>
        cases l with
        | nil => exact Or.inr ⟨len, fun p => rfl⟩
        | cons t r =>
          by_cases hc : t.c = .reg
          · rcases ihw hw' r (by simp at hl; omega) with ⟨nm, rg, kids, r', h'⟩ | ⟨q, h'⟩
            · exact Or.inl ⟨_, _, _, _, .region hc h'⟩
            · exact Or.inr ⟨q, fun p => by simp only [List.cons_append, formRun, if_pos hc]; exact h' p⟩
          · exact Or.inr ⟨t.at_, fun p => by simp only [List.cons_append, formRun, if_neg hc]⟩

/-- a text without fault in its form has a tree -/
theorem form_none {placed : Bool} {l : List UInt8} (h : formOf placed l = none) : ∃ e, PE placed (tokens l) e [] := by
  unfold formOf at h
  rcases (parse_total placed l.length (tokens l).length).1 (tokens l) (Nat.le_refl _) with ⟨e, r, hp⟩ | ⟨q, hq⟩
  · rw [hp.sound] at h
    cases r with
    | nil => exact ⟨e, hp⟩
    | cons t r => simp [formRun] at h
  · rw [hq] at h; cases h
end Go.Proofs.YtglkpkmdoohdcaaDoor
