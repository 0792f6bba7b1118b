import Derived.Test.YtglkpkmdoohdcaaDoorMe
/- Plain mathematics: the types of all expressions, the first error and its place (the document's P3, P7), on the tree. -/
namespace Go.Proofs.YtglkpkmdoohdcaaDoor

/-- all regions below 100 -/
def Ty.regs : Ty → Prop
  | .n => True
  | .p r a b => r < 100 ∧ a.regs ∧ b.regs
/-- no type that comes up is greater -/
def Ty.fit (t : Ty) : Prop := t.size ≤ 127 ∧ t.regs
theorem dec2 (r : Nat) (h : r < 100) : (Go.Lib.decDigits r).length ≤ 2 := by
  rw [Go.Lib.decDigits]; split
  · simp
  · rw [Go.Lib.decDigits]; split
    · simp
    · omega
theorem regs_len (t : Ty) (h : t.regs) : t.txt.length ≤ 6 * t.size + 1 := by
  induction t with
  | n => simp [Ty.txt, Ty.size]
  | p r a b iha ihb =>
    simp only [Ty.regs] at h
    have h1 := iha h.2.1
    have h2 := ihb h.2.2
    have h3 := dec2 r h.1
    simp only [Ty.txt, Ty.size, List.length_cons, List.length_append, List.length_nil]; omega
theorem fit_len {t : Ty} (h : t.fit) : t.txt.length ≤ 1000 := by
  have := regs_len t h.2
  have := h.1
  omega

structure TSt where
  e : Nat
  at_ : Nat
  of : List (List UInt8)
abbrev TEnv := List (List UInt8 × Ty)

/-- the innermost binding (the last) -/
def look (env : TEnv) (s : List UInt8) : Option Ty := (env.reverse.find? (fun x => x.1 == s)).map (·.2)
/-- the first error stays -/
def errS (st : TSt) (e p : Nat) : TSt := if st.e = 0 then { st with e := e, at_ := p } else st
def fin (id p : Nat) (x : Ty × TSt) : Ty × TSt :=
  let st := if x.2.e = 0 ∧ 63 < x.1.size then errS x.2 6 p else x.2
  (x.1, { st with of := st.of.set id x.1.txt })
/-- out of the parts' types -/
def madeT (cls : List Nat) (k : Kw) (p site : Nat) (ks : List Ty) (st : TSt) : Ty × TSt :=
  match k, ks with
  | .new, a :: _ => (a, st)
  | .pair, [a, b] => (.p (cls.getD site 0) a b, st)
  | .fst, .p _ a _ :: _ => (a, st)
  | .snd, .p _ _ b :: _ => (b, st)
  | .if_, [a, b, c] => if a = .n ∧ b.bare = c.bare then (b, st) else (.n, errS st 5 p)
  | .loop, [a, b, c] => if a = .n ∧ b.bare = c.bare then (b, st) else (.n, errS st 5 p)
  | .add, [a, b] => if a = .n ∧ b = .n then (.n, st) else (.n, errS st 5 p)
  | .sub, [a, b] => if a = .n ∧ b = .n then (.n, st) else (.n, errS st 5 p)
  | .less, [a, b] => if a = .n ∧ b = .n then (.n, st) else (.n, errS st 5 p)
  | _, _ => (.n, errS st 5 p)

mutual
def tyFind (cls : List Nat) : PT → Nat → Nat → TEnv → TSt → Ty × TSt
  | .num p _, id, _, _, st => fin id p (.n, st)
  | .name p s, id, _, env, st => fin id p (match look env s with
    | some t => (t, st)
    | none => (.n, errS st 4 p))
  | .node p k nm _ kids, id, site, env, st =>
    fin id p (if k = .let_ then tyLet cls nm kids (id + 1) site env st
      else
        let x := if k = .loop then tyLoop cls nm kids (id + 1) site env st else tyKids cls kids (id + 1) (site + if k = .pair then 1 else 0) env st
        if x.2.e ≠ 0 then (.n, x.2) else madeT cls k p site x.1 x.2)
def tyKids (cls : List Nat) : List PT → Nat → Nat → TEnv → TSt → List Ty × TSt
  | [], _, _, _, st => ([], st)
  | a :: r, id, site, env, st =>
    let x := tyFind cls a id site env st
    let y := tyKids cls r (id + a.cnt) (site + a.prs) env x.2
    (x.1 :: y.1, y.2)
def tyLet (cls : List Nat) (nm : List UInt8) : List PT → Nat → Nat → TEnv → TSt → Ty × TSt
  | [a, b], id, site, env, st =>
    let x := tyFind cls a id site env st
    tyFind cls b (id + a.cnt) (site + a.prs) (env ++ [(nm, x.1)]) x.2
  | _, _, _, _, st => (.n, st)
def tyLoop (cls : List Nat) (nm : List UInt8) : List PT → Nat → Nat → TEnv → TSt → List Ty × TSt
  | [a, b, c], id, site, env, st =>
    let x := tyFind cls a id site env st
    let y := tyFind cls b (id + a.cnt) (site + a.prs) env x.2
    let z := tyFind cls c (id + a.cnt + b.cnt) (site + a.prs + b.prs) (env ++ [(nm, y.1)]) y.2
    ([x.1, y.1, z.1], z.2)
  | _, _, _, _, st => ([], st)
end
end Go.Proofs.YtglkpkmdoohdcaaDoor
