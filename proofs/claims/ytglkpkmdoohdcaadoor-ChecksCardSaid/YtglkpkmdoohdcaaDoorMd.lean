import Derived.Test.YtglkpkmdoohdcaaDoorMc
/- Plain mathematics: how the wants of a kept word part; what a tree uses of its tokens. -/
namespace Go.Proofs.YtglkpkmdoohdcaaDoor

def cntE (l : List Wt) : Nat := (l.filter (· = .e)).length

theorem wants_close {k : Kw} {placed : Bool} {done ws : List Wt} (h : wantsK k placed = done ++ .close :: ws) : ws = [] := by
  cases k <;> cases placed <;> simp only [wantsK] at h <;>
  rcases done with _ | ⟨a1, _ | ⟨a2, _ | ⟨a3, _ | ⟨a4, _ | ⟨a5, done⟩⟩⟩⟩⟩ <;> simp at h <;> simp_all

theorem wants_name {k : Kw} {placed : Bool} {done ws : List Wt} (h : wantsK k placed = done ++ .name :: ws) :
    ((k = .let_ ∧ cntE done = 0) ∨ (k = .loop ∧ cntE done = 1)) ∧ Wt.name ∉ done ∧ Wt.name ∉ ws := by
  cases k <;> cases placed <;> simp only [wantsK] at h <;>
  rcases done with _ | ⟨a1, _ | ⟨a2, _ | ⟨a3, _ | ⟨a4, _ | ⟨a5, done⟩⟩⟩⟩⟩ <;> simp at h <;> (try simp_all [cntE]) <;> (try obtain ⟨_, rfl⟩ := h) <;> (try subst_vars) <;> simp

theorem wants_region {k : Kw} {placed : Bool} {done ws : List Wt} (h : wantsK k placed = done ++ .region :: ws) : Wt.region ∉ done ∧ Wt.region ∉ ws := by
  cases k <;> cases placed <;> simp only [wantsK] at h <;>
  rcases done with _ | ⟨a1, _ | ⟨a2, _ | ⟨a3, _ | ⟨a4, _ | ⟨a5, done⟩⟩⟩⟩⟩ <;> simp at h <;> (try simp_all) <;> (try subst_vars) <;> simp

theorem wants_e {k : Kw} {placed : Bool} {done ws : List Wt} (h : wantsK k placed = done ++ .e :: ws) :
    Wt.name ∈ done ∨ (k ≠ .let_ ∧ (k = .loop → cntE done = 0)) := by
  cases k <;> cases placed <;> simp only [wantsK] at h <;>
  rcases done with _ | ⟨a1, _ | ⟨a2, _ | ⟨a3, _ | ⟨a4, _ | ⟨a5, done⟩⟩⟩⟩⟩ <;> simp at h <;> simp_all [cntE]

theorem wants_more {k : Kw} {placed : Bool} {done ws : List Wt} {x : Wt} (h : wantsK k placed = done ++ x :: ws) (hx : x ≠ .close) : ws ≠ [] := by
  cases k <;> cases placed <;> simp only [wantsK] at h <;>
  rcases done with _ | ⟨a1, _ | ⟨a2, _ | ⟨a3, _ | ⟨a4, _ | ⟨a5, done⟩⟩⟩⟩⟩ <;> simp at h <;> intro e <;> subst e <;> simp_all

/-- the wants met one by one; of each expression something is known -/
inductive PWx (Good : List Tk → PT → List Tk → Prop) : List Wt → List Tk → List UInt8 → List UInt8 → List PT → List Tk → Prop
  | nil {r : List Tk} : PWx Good [] r [] [] [] r
  | close {t : Tk} {ws : List Wt} {r r' : List Tk} {nm rg : List UInt8} {kids : List PT} : t.c = .cls → PWx Good ws r nm rg kids r' → PWx Good (.close :: ws) (t :: r) nm rg kids r'
  | name {t : Tk} {ws : List Wt} {r r' : List Tk} {nm rg : List UInt8} {kids : List PT} : t.c = .nam → PWx Good ws r nm rg kids r' → PWx Good (.name :: ws) (t :: r) t.s rg kids r'
  | region {t : Tk} {ws : List Wt} {r r' : List Tk} {nm rg : List UInt8} {kids : List PT} : t.c = .reg → PWx Good ws r nm rg kids r' → PWx Good (.region :: ws) (t :: r) nm t.s kids r'
  | e {e : PT} {ws : List Wt} {l r r' : List Tk} {nm rg : List UInt8} {kids : List PT} : Good l e r → PWx Good ws r nm rg kids r' → PWx Good (.e :: ws) l nm rg (e :: kids) r'

theorem PWx.noname {Good : List Tk → PT → List Tk → Prop} {ws : List Wt} {l : List Tk} {nm rg : List UInt8} {kids : List PT} {r : List Tk} (h : PWx Good ws l nm rg kids r) (hn : Wt.name ∉ ws) : nm = [] := by
  induction h with
  | nil => rfl
  | close _ _ ih => exact ih (fun h => hn (List.mem_cons_of_mem _ h))
  | name _ _ _ => exact absurd List.mem_cons_self hn
  | region _ _ ih => exact ih (fun h => hn (List.mem_cons_of_mem _ h))
  | e _ _ ih => exact ih (fun h => hn (List.mem_cons_of_mem _ h))
theorem PWx.noregion {Good : List Tk → PT → List Tk → Prop} {ws : List Wt} {l : List Tk} {nm rg : List UInt8} {kids : List PT} {r : List Tk} (h : PWx Good ws l nm rg kids r) (hn : Wt.region ∉ ws) : rg = [] := by
  induction h with
  | nil => rfl
  | close _ _ ih => exact ih (fun h => hn (List.mem_cons_of_mem _ h))
  | region _ _ _ => exact absurd List.mem_cons_self hn
  | name _ _ ih => exact ih (fun h => hn (List.mem_cons_of_mem _ h))
  | e _ _ ih => exact ih (fun h => hn (List.mem_cons_of_mem _ h))

mutual
theorem PE.used {placed : Bool} : ∀ {l : List Tk} {e : PT} {r : List Tk}, PE placed l e r → e.cnt + r.length ≤ l.length ∧ e.prs + r.length + 1 ≤ l.length
  | _, _, _, .num _ => by simp [PT.cnt, PT.prs]; omega
  | _, _, _, .name _ => by simp [PT.cnt, PT.prs]; omega
  | _, _, _, .node (k := k) _ _ _ h4 => by have := PW.used h4; simp [PT.cnt, PT.prs]; split <;> omega
theorem PW.used {placed : Bool} : ∀ {ws : List Wt} {l : List Tk} {nm rg : List UInt8} {kids : List PT} {r : List Tk}, PW placed ws l nm rg kids r → cntL kids + r.length ≤ l.length ∧ prsL kids + r.length ≤ l.length
  | _, _, _, _, _, _, .nil => by simp [cntL, prsL]
  | _, _, _, _, _, _, .close _ h1 => by have := PW.used h1; simp; omega
  | _, _, _, _, _, _, .name _ h1 => by have := PW.used h1; simp; omega
  | _, _, _, _, _, _, .region _ h1 => by have := PW.used h1; simp; omega
  | _, _, _, _, _, _, .e h h1 => by have := PE.used h; have := PW.used h1; simp only [cntL, prsL]; omega
end

theorem PE.suffix {placed : Bool} {l : List Tk} {e : PT} {r : List Tk} (h : PE placed l e r) : ∃ t r', l = t :: r' ∧ (t.c = .num ∨ t.c = .nam ∨ t.c = .opn) := by
  cases h with
  | num h => exact ⟨_, _, rfl, Or.inl h⟩
  | name h => exact ⟨_, _, rfl, Or.inr (Or.inl h)⟩
  | node h _ _ _ => exact ⟨_, _, rfl, Or.inr (Or.inr h)⟩

mutual
theorem PE.drop {placed : Bool} : ∀ {l : List Tk} {e : PT} {r : List Tk}, PE placed l e r → ∃ n, r = l.drop n ∧ n ≤ l.length
  | _, _, _, .num _ => ⟨1, by simp, by simp⟩
  | _, _, _, .name _ => ⟨1, by simp, by simp⟩
  | _, _, _, .node _ _ _ h4 => by obtain ⟨n, h, hn⟩ := PW.drop h4; exact ⟨n + 2, by simp [h], by simp; omega⟩
theorem PW.drop {placed : Bool} : ∀ {ws : List Wt} {l : List Tk} {nm rg : List UInt8} {kids : List PT} {r : List Tk}, PW placed ws l nm rg kids r → ∃ n, r = l.drop n ∧ n ≤ l.length
  | _, _, _, _, _, _, .nil => ⟨0, by simp, by simp⟩
  | _, _, _, _, _, _, .close _ h1 => by obtain ⟨n, h, hn⟩ := PW.drop h1; exact ⟨n + 1, by simp [h], by simp; omega⟩
  | _, _, _, _, _, _, .name _ h1 => by obtain ⟨n, h, hn⟩ := PW.drop h1; exact ⟨n + 1, by simp [h], by simp; omega⟩
  | _, _, _, _, _, _, .region _ h1 => by obtain ⟨n, h, hn⟩ := PW.drop h1; exact ⟨n + 1, by simp [h], by simp; omega⟩
  | _, _, _, _, _, _, .e h h1 => by
    obtain ⟨n, hr, hn⟩ := PE.drop h
    obtain ⟨m, hr', hm⟩ := PW.drop h1
    refine ⟨n + m, by rw [hr', hr, List.drop_drop], ?_⟩
    rw [hr] at hm; simp at hm; omega
end
end Go.Proofs.YtglkpkmdoohdcaaDoor
