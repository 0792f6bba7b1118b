import Derived.Test.YtglkpkmdoohdcaaDoorRx
import Derived.Test.YtglkpkmdoohdcaaDoorMi
namespace Go.Proofs.YtglkpkmdoohdcaaDoor
open Go.RowKit

theorem fin_len (id p : Nat) (x : Ty × TSt) : (fin id p x).2.of.length = x.2.of.length := by
  simp only [fin, List.length_set]
  split
  · exact errS_len _ _ _
  · rfl
theorem madeT_len (cls : List Nat) (k : Kw) (p site : Nat) (ks : List Ty) (st : TSt) : (madeT cls k p site ks st).2.of.length = st.of.length := by rw [madeT_of]

mutual
theorem tyFind_len (cls : List Nat) : ∀ (t : PT) (id site : Nat) (env : TEnv) (st : TSt), (tyFind cls t id site env st).2.of.length = st.of.length
  | .num p s, id, site, env, st => by simp only [tyFind]; rw [fin_len]
  | .name p s, id, site, env, st => by
    simp only [tyFind]; rw [fin_len]
    split
    · rfl
    · exact errS_len _ _ _
  | .node p k nm rg kids, id, site, env, st => by
    simp only [tyFind]; rw [fin_len]
    split
    · exact tyLet_len cls nm kids _ _ _ _
    · have hx : (if k = .loop then tyLoop cls nm kids (id + 1) site env st else tyKids cls kids (id + 1) (site + if k = .pair then 1 else 0) env st).2.of.length = st.of.length := by
        split
        · exact tyLoop_len cls nm kids _ _ _ _
        · exact tyKids_olen cls kids _ _ _ _
      generalize (if k = .loop then tyLoop cls nm kids (id + 1) site env st else tyKids cls kids (id + 1) (site + if k = .pair then 1 else 0) env st) = x at hx ⊢
      split
      · exact hx
      · rw [madeT_len]; exact hx
theorem tyKids_olen (cls : List Nat) : ∀ (ts : List PT) (id site : Nat) (env : TEnv) (st : TSt), (tyKids cls ts id site env st).2.of.length = st.of.length
  | [], _, _, _, _ => by simp only [tyKids]
  | a :: r, id, site, env, st => by simp only [tyKids]; rw [tyKids_olen cls r, tyFind_len cls a]
theorem tyLet_len (cls : List Nat) (nm : List UInt8) : ∀ (ts : List PT) (id site : Nat) (env : TEnv) (st : TSt), (tyLet cls nm ts id site env st).2.of.length = st.of.length
  | [a, b], id, site, env, st => by simp only [tyLet]; rw [tyFind_len cls b, tyFind_len cls a]
  | [], _, _, _, _ => by simp only [tyLet]
  | [_], _, _, _, _ => by simp only [tyLet]
  | _ :: _ :: _ :: _, _, _, _, _ => by simp only [tyLet]
theorem tyLoop_len (cls : List Nat) (nm : List UInt8) : ∀ (ts : List PT) (id site : Nat) (env : TEnv) (st : TSt), (tyLoop cls nm ts id site env st).2.of.length = st.of.length
  | [a, b, c], id, site, env, st => by simp only [tyLoop]; rw [tyFind_len cls c, tyFind_len cls b, tyFind_len cls a]
  | [], _, _, _, _ => by simp only [tyLoop]
  | [_], _, _, _, _ => by simp only [tyLoop]
  | [_, _], _, _, _, _ => by simp only [tyLoop]
  | _ :: _ :: _ :: _ :: _, _, _, _, _ => by simp only [tyLoop]
end

mutual
/-- each word has as many parts as it must -/
def PT.wf : PT → Prop
  | .num _ _ => True
  | .name _ _ => True
  | .node _ k _ _ kids => kids.length = arity k ∧ wfL kids
def wfL : List PT → Prop
  | [] => True
  | t :: r => t.wf ∧ wfL r
end
theorem wfL_mem : ∀ {ts : List PT}, wfL ts → ∀ t ∈ ts, t.wf
  | [], _, t, h => by simp at h
  | a :: r, hw, t, h => by
    simp only [wfL] at hw
    rcases List.mem_cons.1 h with h | h
    · subst h; exact hw.1
    · exact wfL_mem hw.2 t h

theorem find_all {w0 : World} {yb : Nat} {cls : List Nat} (hc100 : ∀ x ∈ cls, x < 100) (hcl : cls.length ≤ 9000) (t : PT) : t.wf → FindOk w0 yb cls t := by
  induction t using PT.ind with
  | h1 p s =>
    intro _
    refine find_of (form_num w0 yb cls p s) (fun id site env st => by simp only [tyFind]; rfl) (fun _ _ _ _ => rfl) (fun _ _ _ _ _ _ => fit_n)
  | h2 p s =>
    intro _
    refine find_of (form_name w0 yb cls p s) (fun id site env st => by simp only [tyFind]; rfl) ?_ ?_
    · intro id site env st
      unfold nameF
      split
      · rfl
      · exact errS_len _ _ _
    · intro id site env st h1 h2
      simp only [nameF]
      split
      · rename_i t ht
        obtain ⟨x, hx, rfl⟩ := look_mem ht
        exact h1 x hx
      · exact fit_n
  | h3 p k nm rg kids ih =>
    intro hw
    simp only [PT.wf] at hw
    have hk : ∀ x ∈ kids, FindOk w0 yb cls x := fun x hx => ih x hx (wfL_mem hw.2 x hx)
    by_cases hl : k = .let_
    · subst hl
      match kids, hw.1, hk with
      | [a, b], _, hk =>
        refine find_of (form_let p nm rg a b hc100 (hk a (by simp)) (hk b (by simp))) (fun id site env st => by simp only [tyFind]; rw [if_pos trivial]; rfl) (fun _ _ _ _ => tyLet_len _ _ _ _ _ _ _) ?_
        intro id site env st h1 h2
        exact (tyLet_ok cls hc100 nm [a, b] _ _ env st ⟨h1, h2⟩).1
    · by_cases hl2 : k = .loop
      · subst hl2
        match kids, hw.1, hk with
        | [a, b, c], _, hk =>
          refine find_of (form_loop p nm rg a b c hc100 hcl (hk a (by simp)) (hk b (by simp)) (hk c (by simp))) (fun id site env st => by simp only [tyFind]; rw [if_neg (by decide), if_pos trivial]; rfl) ?_ ?_
          · intro id site env st
            simp only [loopF]
            split
            · exact tyLoop_len _ _ _ _ _ _ _
            · rw [madeT_len]; exact tyLoop_len _ _ _ _ _ _ _
          · intro id site env st h1 h2
            have hx := tyLoop_ok cls hc100 nm [a, b, c] (id + 1) site env st ⟨h1, h2⟩
            simp only [loopF]
            split
            · exact fit_n
            · rename_i hne
              have h0 : (tyLoop cls nm [a, b, c] (id + 1) site env st).2.e = 0 := by simpa using hne
              exact (made_pre hc100 (fun t ht => ⟨hx.1 t ht, (hx.2.1 h0).2 t ht⟩)).1
      · refine find_of (form_kids p k nm rg kids hc100 hcl hl hl2 hw.1 hk) (fun id site env st => by simp only [tyFind]; rw [if_neg hl, if_neg hl2]; rfl) ?_ ?_
        · intro id site env st
          simp only [kidsF]
          generalize (site + if k = .pair then 1 else 0) = s1
          split
          · exact tyKids_olen _ _ _ _ _ _
          · rw [madeT_len]; exact tyKids_olen _ _ _ _ _ _
        · intro id site env st h1 h2
          have hx := tyKids_ok cls hc100 kids (id + 1) (site + if k = .pair then 1 else 0) env st ⟨h1, h2⟩
          simp only [kidsF]
          generalize (site + if k = .pair then 1 else 0) = s1 at hx ⊢
          split
          · exact fit_n
          · rename_i hne
            have h0 : (tyKids cls kids (id + 1) s1 env st).2.e = 0 := by simpa using hne
            exact (made_pre hc100 (fun t ht => ⟨hx.1 t ht, (hx.2.1 h0).2 t ht⟩)).1
end Go.Proofs.YtglkpkmdoohdcaaDoor
