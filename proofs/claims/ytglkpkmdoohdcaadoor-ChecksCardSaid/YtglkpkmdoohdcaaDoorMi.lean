import Derived.Test.YtglkpkmdoohdcaaDoorMh
/- Plain mathematics: what the tokens of a text are like; how many parts a tree's words have. -/
namespace Go.Proofs.YtglkpkmdoohdcaaDoor

theorem toks_mem : ∀ (f p : Nat) (l : List UInt8) (t : Tk), t ∈ toks f p l → ∃ l', l' ≠ [] ∧ t.s = l'.take (tokenOf l').1 ∧ t.c = (tokenOf l').2
  | 0, _, _, t, h => by simp [toks] at h
  | _ + 1, _, [], t, h => by simp [toks] at h
  | f + 1, p, c :: r, t, h => by
    simp only [toks] at h
    split at h
    · exact toks_mem f _ r t h
    · rcases List.mem_cons.1 h with h | h
      · subst h; exact ⟨c :: r, by simp, rfl, rfl⟩
      · exact toks_mem f _ _ t h

theorem tokenOf_num {l : List UInt8} (h : (tokenOf l).2 = .num) : (tokenOf l).1 ≤ 4 := by
  unfold tokenOf at h ⊢
  split at h
  · rename_i h1
    simp only [wordCl] at h
    split at h
    · cases h
    · split at h <;> cases h
  · rename_i h1
    split at h
    · rename_i h2
      rw [if_neg h1, if_pos h2]
      simp only at h ⊢
      split at h
      · rename_i h3
        unfold numeralB at h3
        simp only [Bool.and_eq_true, decide_eq_true_eq] at h3
        have := h3.1.2
        have hl := run_le 48 57 l
        simp only [List.length_take] at this
        omega
      · cases h
    · rename_i h2
      split at h
      · cases h
      · split at h
        · simp only at h; split at h <;> cases h
        · simp only at h; split at h
          · cases h
          · split at h <;> cases h

theorem tokenOf_reg {l : List UInt8} (h : (tokenOf l).2 = .reg) : (tokenOf l).1 ≤ 4 := by
  unfold tokenOf at h ⊢
  split at h
  · rename_i h1
    simp only [wordCl] at h
    split at h
    · cases h
    · split at h <;> cases h
  · rename_i h1
    rw [if_neg h1]
    split at h
    · simp only at h; split at h <;> cases h
    · rename_i h2
      rw [if_neg h2]
      split at h
      · cases h
      · rename_i c r
        split at h
        · rename_i h3
          simp only at h
          rw [if_pos h3]
          simp only
          split at h
          · rename_i h4
            unfold numeralB at h4
            simp only [Bool.and_eq_true, decide_eq_true_eq] at h4
            have := h4.1.2
            simp only [List.length_take] at this
            have hl := run_le 48 57 r
            omega
          · cases h
        · simp only at h; split at h
          · cases h
          · split at h <;> cases h

theorem tokenOf_kw {l : List UInt8} {k : Kw} (h : (tokenOf l).2 = .kw k) : l.take (tokenOf l).1 = k.bytes := by
  unfold tokenOf at h ⊢
  split at h
  · rename_i h1
    rw [if_pos h1]
    simp only [wordCl] at h ⊢
    split at h
    · rename_i k' hk
      simp only [Cl.kw.injEq] at h
      subst h
      exact kwOf_some hk
    · split at h <;> cases h
  · split at h
    · simp only at h; split at h <;> cases h
    · split at h
      · cases h
      · split at h
        · simp only at h; split at h <;> cases h
        · simp only at h; split at h
          · cases h
          · split at h <;> cases h

theorem toks_num {f p : Nat} {l : List UInt8} {t : Tk} (h : t ∈ toks f p l) (hc : t.c = .num) : t.s.length ≤ 5 := by
  obtain ⟨l', _, h1, h2⟩ := toks_mem f p l t h
  have := tokenOf_num (by rw [← h2]; exact hc)
  rw [h1]; simp; omega
theorem toks_reg {f p : Nat} {l : List UInt8} {t : Tk} (h : t ∈ toks f p l) (hc : t.c = .reg) : t.s.length ≤ 5 := by
  obtain ⟨l', _, h1, h2⟩ := toks_mem f p l t h
  have := tokenOf_reg (by rw [← h2]; exact hc)
  rw [h1]; simp; omega
theorem toks_ne {f p : Nat} {l : List UInt8} {t : Tk} (h : t ∈ toks f p l) : t.s ≠ [] := by
  obtain ⟨l', h0, h1, _⟩ := toks_mem f p l t h
  have hp := tokenOf_pos l'
  intro e
  rw [h1] at e
  rcases List.take_eq_nil_iff.1 e with e | e
  · omega
  · exact h0 e
theorem toks_kw {f p : Nat} {l : List UInt8} {t : Tk} {k : Kw} (h : t ∈ toks f p l) (hc : t.c = .kw k) : t.s = k.bytes := by
  obtain ⟨l', _, h1, h2⟩ := toks_mem f p l t h
  rw [h1]; exact tokenOf_kw (by rw [← h2]; exact hc)

theorem PW.kids_len {placed : Bool} : ∀ {ws : List Wt} {l : List Tk} {nm rg : List UInt8} {kids : List PT} {r : List Tk}, PW placed ws l nm rg kids r → kids.length = cntE ws
  | _, _, _, _, _, _, .nil => rfl
  | _, _, _, _, _, _, .close _ h1 => by have := PW.kids_len h1; simpa [cntE] using this
  | _, _, _, _, _, _, .name _ h1 => by have := PW.kids_len h1; simpa [cntE] using this
  | _, _, _, _, _, _, .region _ h1 => by have := PW.kids_len h1; simpa [cntE] using this
  | _, _, _, _, _, _, .e _ h1 => by have := PW.kids_len h1; simp [cntE] at this ⊢; exact this
end Go.Proofs.YtglkpkmdoohdcaaDoor
