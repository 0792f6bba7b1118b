import Derived.Test.YtpicaknklgccoaaGreatDoorX1
namespace Go.Proofs.YtpicaknklgccoaaGreatDoor
structure TN where
 kind : Nat
 at_ : Nat
 beh : Nat
 word : List UInt8
 num : Int
def kindN : Cl → Nat
 | .bad => 1
 | .opn => 2
 | .cls => 3
 | .nam => 4
 | .num => 5
 | .reg => 6
 | .kw .let_ => 7
 | .kw .pair => 8
 | .kw .fst => 9
 | .kw .snd => 10
 | .kw .if_ => 11
 | .kw .add => 12
 | .kw .sub => 13
 | .kw .less => 14
 | .kw .loop => 15
 | .kw .new => 16
def wordN (t : Tk) : List UInt8 := match t.c with
 | .nam => t.s
 | .kw _ => t.s
 | _ => []
def numN (t : Tk) : Int := match t.c with
 | .num => valueL t.s
 | .reg => valueL t.s
 | _ => 0
def tnOf (t : Tk) : TN := ⟨kindN t.c, t.at_, t.at_ + t.s.length, wordN t, numN t⟩
def tksAt (s : List UInt8) (p : Nat) : List Tk := toks (s.length - p) p (s.drop p)
def tk1 (len : Nat) (l : List Tk) : TN := match l with
 | [] => ⟨0, len, len, [], 0⟩
 | t :: _ => tnOf t
structure NR where
 form : Nat
 at_ : Nat
 beh : Nat
 num : Int
 word : List UInt8
 region : Int
 source : Int
 p0 : Int
 p1 : Int
 p2 : Int
structure PS where
 l : List Tk
 fl : Option Nat
 scope : List (List UInt8 × Int)
 nodes : List NR
 opened : List Int
def PS.fail (at_ : Nat) (st : PS) : PS := match st.fl with
 | some _ => st
 | none => { st with fl := some at_, l := [] }
def PS.tail (st : PS) : PS := { st with l := st.l.tail }
def PS.expect (len kind : Nat) (st : PS) : PS := if (tk1 len st.l).kind ≠ kind then st.tail.fail (tk1 len st.l).at_ else st.tail
def PS.add (n : NR) (st : PS) : PS := { st with nodes := st.nodes ++ [n] }
def findS (scope : List (List UInt8 × Int)) (w : List UInt8) : Int := match scope.reverse.find? (fun x => x.1 == w) with
 | some x => x.2
 | none => -1
def formN : Nat → Nat
 | 7 => 3
 | 8 => 4
 | 9 => 5
 | 10 => 6
 | 11 => 7
 | 12 => 8
 | 13 => 9
 | 14 => 10
 | 15 => 11
 | 16 => 12
 | _ => 0
def pBody (pE : PS → Int × PS) (word : List UInt8) (src : Int) (st : PS) : Int × PS :=
 let x := pE { st with scope := st.scope ++ [(word, src)] }
 (x.1, { x.2 with scope := x.2.scope.dropLast })
def pLet (len : Nat) (pE : PS → Int × PS) (n : NR) (st : PS) : NR × PS :=
 let nm := tk1 len st.l
 let x := pE (st.expect len 4)
 let y := pBody pE nm.word x.1 x.2
 ({ n with word := nm.word, p0 := x.1, p1 := y.1, p2 := -1 }, y.2)
def pLoop (len : Nat) (pE : PS → Int × PS) (n : NR) (st : PS) : NR × PS :=
 let t := pE st
 let nm := tk1 len t.2.l
 let x := pE (t.2.expect len 4)
 let y := pBody pE nm.word x.1 x.2
 ({ n with word := nm.word, p0 := t.1, p1 := x.1, p2 := y.1 }, y.2)
def pRegion (len : Nat) (n : NR) (st : PS) : NR × PS := ({ n with region := (tk1 len st.l).num }, st.expect len 6)
def pRow1 (pE : PS → Int × PS) (n : NR) (st : PS) : NR × PS :=
 let x := pE st
 ({ n with p0 := x.1 }, x.2)
def pRow2 (pE : PS → Int × PS) (n : NR) (st : PS) : NR × PS :=
 let x := pRow1 pE n st
 let y := pE x.2
 ({ x.1 with p1 := y.1 }, y.2)
def pRow3 (pE : PS → Int × PS) (n : NR) (st : PS) : NR × PS :=
 let x := pRow2 pE n st
 let y := pE x.2
 ({ x.1 with p2 := y.1 }, y.2)
def pFill (placed : Bool) (len : Nat) (pE : PS → Int × PS) (n : NR) (st : PS) : NR × PS :=
 if n.form = 3 then pLet len pE n st
 else if n.form = 11 then pLoop len pE n st
 else if n.form = 4 then (if placed then pRow2 pE (pRegion len n st).1 (pRegion len n st).2 else pRow2 pE n st)
 else if n.form = 12 then pRow1 pE (pRegion len n st).1 (pRegion len n st).2
 else if n.form = 5 ∨ n.form = 6 then pRow1 pE n st
 else if n.form = 7 then pRow3 pE n st
 else pRow2 pE n st
def pBracket (placed : Bool) (len : Nat) (pE : PS → Int × PS) (n : NR) (st : PS) : Int × PS :=
 let w := tk1 len st.l
 let f := formN w.kind
 if f = 0 ∨ (f = 12 ∧ placed = false) then (-1, st.tail.fail w.at_)
 else
  let x := pFill placed len pE { n with form := f } st.tail
  let e := tk1 len x.2.l
  (((x.2.expect len 3).nodes.length : Int), (x.2.expect len 3).add { x.1 with beh := e.beh })
def nodeT (t : TN) : NR := ⟨0, t.at_, t.beh, 0, [], 0, -1, -1, -1, -1⟩
def pAny (len : Nat) (pB : NR → PS → Int × PS) (st : PS) : Int × PS :=
 let t := tk1 len st.l
 if t.kind = 5 then ((st.nodes.length : Int), st.tail.add { nodeT t with form := 1, num := t.num })
 else if t.kind = 4 then ((st.nodes.length : Int), st.tail.add { nodeT t with form := 2, word := t.word, source := findS st.scope t.word })
 else if t.kind = 2 then pB (nodeT t) st.tail
 else (-1, st.tail.fail t.at_)
def pSeat (f : PS → Int × PS) (st : PS) : Int × PS :=
 let x := f { st with opened := st.opened ++ [-1] }
 (x.1, { x.2 with opened := x.2.opened.set st.opened.length x.1 })
def pExpr (placed : Bool) (len : Nat) : Nat → PS → Int × PS
 | 0 => pSeat (pAny len fun _ st => (-1, st))
 | m + 1 => pSeat (pAny len (pBracket placed len (pExpr placed len m)))
theorem kindN_num (c : Cl) : kindN c = 5 ↔ c = .num := by
 cases c with
 | kw k => cases k <;> decide
 | _ => decide
theorem kindN_nam (c : Cl) : kindN c = 4 ↔ c = .nam := by
 cases c with
 | kw k => cases k <;> decide
 | _ => decide
theorem kindN_opn (c : Cl) : kindN c = 2 ↔ c = .opn := by
 cases c with
 | kw k => cases k <;> decide
 | _ => decide
theorem kindN_cls (c : Cl) : kindN c = 3 ↔ c = .cls := by
 cases c with
 | kw k => cases k <;> decide
 | _ => decide
theorem kindN_reg (c : Cl) : kindN c = 6 ↔ c = .reg := by
 cases c with
 | kw k => cases k <;> decide
 | _ => decide
def PS.stuck (q : Nat) (st : PS) : Prop := st.fl = some q ∧ st.l = []
theorem stuck_fail {q a : Nat} {st : PS} (h : st.stuck q) : (st.fail a).stuck q := by
 obtain ⟨h1, h2⟩ := h
 unfold PS.fail; rw [h1]; exact ⟨h1, h2⟩
theorem stuck_tail {q : Nat} {st : PS} (h : st.stuck q) : st.tail.stuck q := ⟨h.1, by simp [PS.tail, h.2]⟩
theorem stuck_expect {q len k : Nat} {st : PS} (h : st.stuck q) : (st.expect len k).stuck q := by
 unfold PS.expect; split
 ·exact stuck_fail (stuck_tail h)
 ·exact stuck_tail h
theorem fail_stuck {a : Nat} {st : PS} (h : st.fl = none) : (st.fail a).stuck a := by
 unfold PS.fail; rw [h]; exact ⟨rfl, rfl⟩
def Keeps (pE : PS → Int × PS) : Prop := ∀ (q : Nat) (st : PS), st.stuck q → (pE st).2.stuck q
theorem keeps_any (len : Nat) (pB : NR → PS → Int × PS) : Keeps (pAny len pB) := by
 intro q st h
 unfold pAny
 simp only [h.2, tk1]
 exact stuck_fail (stuck_tail h)
theorem keeps_seat {f : PS → Int × PS} (hf : Keeps f) : Keeps (pSeat f) := by
 intro q st h
 exact hf q { st with opened := st.opened ++ [-1] } h
theorem keeps_expr (placed : Bool) (len n : Nat) : Keeps (pExpr placed len n) := by
 cases n with
 | zero => exact keeps_seat (keeps_any _ _)
 | succ m => exact keeps_seat (keeps_any _ _)
theorem keeps_body {pE : PS → Int × PS} (h : Keeps pE) (w : List UInt8) (src : Int) {q : Nat} {st : PS} (hs : st.stuck q) : (pBody pE w src st).2.stuck q := h q { st with scope := st.scope ++ [(w, src)] } hs
theorem tail_len (st : PS) : st.tail.l.length ≤ st.l.length := by simp [PS.tail]
inductive Ins | name | region | e | body
 deriving DecidableEq
def Ins.wt : Ins → Wt
 | .name => .name
 | .region => .region
 | .e => .e
 | .body => .e
def insK (k : Kw) (placed : Bool) : List Ins :=
 match k, placed with
 | .let_, _ => [.name, .e, .body]
 | .loop, _ => [.e, .name, .e, .body]
 | .pair, true => [.region, .e, .e]
 | .new, _ => [.region, .e]
 | .pair, false => [.e, .e]
 | .add, _ => [.e, .e]
 | .sub, _ => [.e, .e]
 | .less, _ => [.e, .e]
 | .fst, _ => [.e]
 | .snd, _ => [.e]
 | .if_, _ => [.e, .e, .e]
theorem insK_wants (k : Kw) (placed : Bool) (h : wantsK k placed ≠ []) : wantsK k placed = (insK k placed).map Ins.wt ++ [.close] := by
 cases k <;> cases placed <;> first | rfl | exact absurd rfl h
def wfI : List Ins → Bool
 | [] => true
 | .name :: is => !is.contains .name && is.head? != some .body && wfI is
 | .region :: is => !is.contains .region && is.head? != some .body && wfI is
 | .body :: is => !is.contains .name && wfI is
 | .e :: is => wfI is
theorem insK_wf (k : Kw) (placed : Bool) : wfI (insK k placed) = true := by cases k <;> cases placed <;> decide
structure FS where
 parts : List Int
 word : List UInt8
 region : Int
def pIns (len : Nat) (pE : PS → Int × PS) : List Ins → FS → PS → FS × PS
 | [], fs, st => (fs, st)
 | .name :: is, fs, st => pIns len pE is { fs with word := (tk1 len st.l).word } (st.expect len 4)
 | .region :: is, fs, st => pIns len pE is { fs with region := (tk1 len st.l).num } (st.expect len 6)
 | .e :: is, fs, st => pIns len pE is { fs with parts := fs.parts ++ [(pE st).1] } (pE st).2
 | .body :: is, fs, st => pIns len pE is { fs with parts := fs.parts ++ [(pBody pE fs.word (fs.parts.getLastD (-1)) st).1] } (pBody pE fs.word (fs.parts.getLastD (-1)) st).2
def formK (k : Kw) : Nat := formN (kindN (.kw k))
def NR.filled (n : NR) (fs : FS) : NR := { n with word := fs.word, region := fs.region, p0 := fs.parts.getD 0 (-1), p1 := fs.parts.getD 1 (-1), p2 := fs.parts.getD 2 (-1) }
theorem pFill_ins (placed : Bool) (len : Nat) (pE : PS → Int × PS) (k : Kw) (hk : wantsK k placed ≠ []) (at_ beh : Nat) (num : Int) (st : PS) :
  pFill placed len pE ⟨formK k, at_, beh, num, [], 0, -1, -1, -1, -1⟩ st =
   (NR.filled ⟨formK k, at_, beh, num, [], 0, -1, -1, -1, -1⟩ (pIns len pE (insK k placed) ⟨[], [], 0⟩ st).1, (pIns len pE (insK k placed) ⟨[], [], 0⟩ st).2) := by
 cases k <;> cases placed <;> first | rfl | exact absurd rfl hk
def partsL : List PT → Nat → List Int
 | [], _ => []
 | t :: r, base => (((base + t.cnt : Nat) : Int) - 1) :: partsL r (base + t.cnt)
mutual
def opn : PT → Nat → List Int
 | .num _ _, base => [(base : Int)]
 | .name _ _, base => [(base : Int)]
 | .node _ _ _ _ kids, base => ((base + cntL kids : Nat) : Int) :: opnL kids base
def opnL : List PT → Nat → List Int
 | [], _ => []
 | t :: r, base => opn t base ++ opnL r (base + t.cnt)
end
def bodsI : List Ins → List Bool
 | [] => []
 | .name :: is => bodsI is
 | .region :: is => bodsI is
 | .e :: is => false :: bodsI is
 | .body :: is => true :: bodsI is
def bodK : Kw → List Bool
 | .let_ => [false, true]
 | .loop => [false, false, true]
 | .pair => [false, false]
 | .new => [false]
 | .add => [false, false]
 | .sub => [false, false]
 | .less => [false, false]
 | .fst => [false]
 | .snd => [false]
 | .if_ => [false, false, false]
theorem bods_eq (k : Kw) (placed : Bool) : bodsI (insK k placed) = bodK k := by cases k <;> cases placed <;> rfl
abbrev Sc := List (List UInt8 × Int)
mutual
def NA (scope : Sc) : PT → Nat → List NR → Prop
 | .num p s, _, ns => ns = [⟨1, p, p + s.length, valueL s, [], 0, -1, -1, -1, -1⟩]
 | .name p s, _, ns => ns = [⟨2, p, p + s.length, 0, s, 0, findS scope s, -1, -1, -1⟩]
 | .node p k nm rg kids, base, ns => ∃ ks beh, NAs scope nm kids (bodK k) base ks ∧
   ns = ks ++ [⟨formK k, p, beh, 0, nm, valueL rg, -1, (partsL kids base).getD 0 (-1), (partsL kids base).getD 1 (-1), (partsL kids base).getD 2 (-1)⟩]
def NAs (scope : Sc) (nm : List UInt8) : List PT → List Bool → Nat → List NR → Prop
 | [], bs, _, ns => bs = [] ∧ ns = []
 | _ :: _, [], _, _ => False
 | t :: r, b :: bs, base, ns => ∃ a c, NA (if b then scope ++ [(nm, (base : Int) - 1)] else scope) t base a ∧ NAs scope nm r bs (base + t.cnt) c ∧ ns = a ++ c
end
mutual
theorem NA.len : ∀ {scope : Sc} {t : PT} {base : Nat} {ns : List NR}, NA scope t base ns → ns.length = t.cnt
 | _, .num _ _, _, _, h => by simp only [NA] at h; subst h; rfl
 | _, .name _ _, _, _, h => by simp only [NA] at h; subst h; rfl
 | _, .node _ _ _ _ kids, _, _, h => by
  simp only [NA] at h
  obtain ⟨ks, beh, h1, rfl⟩ := h
  have := NAs.len h1
  simp only [List.length_append, List.length_cons, List.length_nil, PT.cnt, this]; omega
theorem NAs.len : ∀ {scope : Sc} {nm : List UInt8} {ts : List PT} {bs : List Bool} {base : Nat} {ns : List NR}, NAs scope nm ts bs base ns → ns.length = cntL ts
 | _, _, [], _, _, _, h => by simp only [NAs] at h; simp [h.2, cntL]
 | _, _, _ :: _, [], _, _, h => by simp [NAs] at h
 | _, _, t :: r, b :: bs, _, _, h => by
  simp only [NAs] at h
  obtain ⟨a, c, h1, h2, rfl⟩ := h
  have := NA.len h1
  have := NAs.len h2
  simp only [List.length_append, cntL]; omega
end
mutual
theorem opn_len : ∀ (t : PT) (base : Nat), (opn t base).length = t.cnt
 | .num _ _, _ => rfl
 | .name _ _, _ => rfl
 | .node _ _ _ _ kids, base => by have := opnL_len kids base; simp only [opn, List.length_cons, PT.cnt, this]; omega
theorem opnL_len : ∀ (ts : List PT) (base : Nat), (opnL ts base).length = cntL ts
 | [], _ => rfl
 | t :: r, base => by have := opn_len t base; have := opnL_len r (base + t.cnt); simp only [opnL, List.length_append, cntL]; omega
end
theorem cnt_pos' (t : PT) : 0 < t.cnt := by cases t <;> simp [PT.cnt]; omega
def YesE (placed : Bool) (pE : PS → Int × PS) (m : Nat) : Prop := ∀ (l : List Tk) (e : PT) (r : List Tk), PE placed l e r → l.length ≤ m → ∀ st : PS, st.l = l → st.fl = none →
 ∃ ns, NA st.scope e st.nodes.length ns ∧ pE st = (((st.nodes.length + e.cnt : Nat) : Int) - 1, { st with l := r, nodes := st.nodes ++ ns, opened := st.opened ++ opn e st.nodes.length })
def NoE (placed : Bool) (len : Nat) (pE : PS → Int × PS) (m : Nat) : Prop := ∀ l : List Tk, l.length ≤ m → (¬ ∃ e r, PE placed l e r) → ∀ st : PS, st.l = l → st.fl = none →
 ∃ q, (∀ p, formRun placed len l (.e :: p) = some q) ∧ (pE st).2.stuck q
theorem body_yes {placed : Bool} {pE : PS → Int × PS} {m : Nat} (hY : YesE placed pE m) (w : List UInt8) (src : Int) {l : List Tk} {e : PT} {r : List Tk} (h : PE placed l e r) (hm : l.length ≤ m) (st : PS) (hl : st.l = l) (hf : st.fl = none) :
  ∃ ns, NA (st.scope ++ [(w, src)]) e st.nodes.length ns ∧ pBody pE w src st = (((st.nodes.length + e.cnt : Nat) : Int) - 1, { st with l := r, nodes := st.nodes ++ ns, opened := st.opened ++ opn e st.nodes.length }) := by
 obtain ⟨ns, h1, h2⟩ := hY l e r h hm { st with scope := st.scope ++ [(w, src)] } hl hf
 refine ⟨ns, h1, ?_⟩
 unfold pBody
 simp only [h2, List.dropLast_concat]
theorem ins_yes {placed : Bool} (len : Nat) {pE : PS → Int × PS} {m : Nat} (hY : YesE placed pE m) : ∀ (is : List Ins) (l : List Tk) (nm rg : List UInt8) (kids : List PT) (r : List Tk), PW placed (is.map Ins.wt ++ [.close]) l nm rg kids r → wfI is = true →
  l.length ≤ m → ∀ (st : PS) (fs : FS) (nm0 : List UInt8), st.l = l → st.fl = none → (is.head? = some .body → fs.parts.getLastD (-1) = (st.nodes.length : Int) - 1) → (if is.contains .name then nm else fs.word) = nm0 →
  ∃ t ns, t.c = .cls ∧ NAs st.scope nm0 kids (bodsI is) st.nodes.length ns ∧
   pIns len pE is fs st = (⟨fs.parts ++ partsL kids st.nodes.length, nm0, if is.contains .region then valueL rg else fs.region⟩, { st with l := t :: r, nodes := st.nodes ++ ns, opened := st.opened ++ opnL kids st.nodes.length }) := by
 intro is
 induction is with
 | nil =>
  intro l nm rg kids r h _ hm st fs nm0 hl hf _ hw
  simp only [List.map_nil, List.nil_append] at h
  cases h with
  | close hc h1 =>
   cases h1
   refine ⟨_, [], hc, ⟨rfl, rfl⟩, ?_⟩
   simp only [pIns, partsL, opnL, List.append_nil]
   simp at hw
   rw [← hl, ← hw]; rfl
 | cons i is ih =>
  intro l nm rg kids r h hwf hm st fs nm0 hl hf hlast hw
  cases i with
  | name =>
   simp only [List.map_cons, Ins.wt, List.cons_append] at h
   simp only [wfI, Bool.and_eq_true, Bool.not_eq_true'] at hwf
   obtain ⟨⟨hw1, hw2⟩, hw3⟩ := hwf
   cases h with
   | name hc h1 =>
    rename_i t r1 nm1
    simp only [List.length_cons] at hm
    have hk : (tk1 len st.l).kind = 4 := by rw [hl]; exact (kindN_nam _).2 hc
    have hex : st.expect len 4 = { st with l := r1 } := by
     unfold PS.expect; rw [if_neg (by simp [hk])]; simp [PS.tail, hl]
    have hword : (tk1 len st.l).word = t.s := by rw [hl]; simp [tk1, tnOf, wordN, hc]
    have hw' : (if is.contains .name then nm1 else t.s) = nm0 := by
     rw [hw1]; simpa using hw
    obtain ⟨t', ns, h2, h3, h4⟩ := ih r1 nm1 rg kids r h1 hw3 (by omega) { st with l := r1 } { fs with word := t.s } nm0 rfl hf (fun e => by rw [e] at hw2; simp at hw2) hw'
    refine ⟨t', ns, h2, h3, ?_⟩
    simp only [pIns]
    rw [hex, hword, h4]
    simp
  | region =>
   simp only [List.map_cons, Ins.wt, List.cons_append] at h
   simp only [wfI, Bool.and_eq_true, Bool.not_eq_true'] at hwf
   obtain ⟨⟨hw1, hw2⟩, hw3⟩ := hwf
   cases h with
   | region hc h1 =>
    rename_i t r1 rg1
    simp only [List.length_cons] at hm
    have hk : (tk1 len st.l).kind = 6 := by rw [hl]; exact (kindN_reg _).2 hc
    have hex : st.expect len 6 = { st with l := r1 } := by
     unfold PS.expect; rw [if_neg (by simp [hk])]; simp [PS.tail, hl]
    have hnum : (tk1 len st.l).num = valueL t.s := by rw [hl]; simp [tk1, tnOf, numN, hc]
    have hw' : (if is.contains .name then nm else fs.word) = nm0 := by simpa using hw
    obtain ⟨t', ns, h2, h3, h4⟩ := ih r1 nm rg1 kids r h1 hw3 (by omega) { st with l := r1 } { fs with region := valueL t.s } nm0 rfl hf (fun e => by rw [e] at hw2; simp at hw2) hw'
    refine ⟨t', ns, h2, h3, ?_⟩
    simp only [pIns]
    rw [hex, hnum, h4, hw1]
    simp
  | e =>
   simp only [List.map_cons, Ins.wt, List.cons_append] at h
   simp only [wfI] at hwf
   cases h with
   | e he h1 =>
    rename_i e r1 kids1
    have hlt := he.len
    obtain ⟨ns1, hn1, hp1⟩ := hY l e r1 he hm st hl hf
    have hw' : (if is.contains .name then nm else fs.word) = nm0 := by simpa using hw
    have hlen := hn1.len
    obtain ⟨t', ns, h2, h3, h4⟩ := ih r1 nm rg kids1 r h1 hwf (by omega) (pE st).2 { fs with parts := fs.parts ++ [(pE st).1] } nm0 (by rw [hp1]) (by rw [hp1]; exact hf)
     (fun _ => by rw [hp1]; simp [hlen]) hw'
    refine ⟨t', ns1 ++ ns, h2, ?_, ?_⟩
    ·rw [hp1] at h3
     simp only [bodsI, NAs]
     simp only [List.length_append, hlen] at h3
     exact ⟨ns1, ns, hn1, h3, rfl⟩
    ·simp only [pIns]
     rw [h4, hp1]
     simp [partsL, opnL, hlen]
  | body =>
   simp only [List.map_cons, Ins.wt, List.cons_append] at h
   simp only [wfI, Bool.and_eq_true, Bool.not_eq_true'] at hwf
   cases h with
   | e he h1 =>
    rename_i e r1 kids1
    have hlt := he.len
    have hw0 : fs.word = nm0 := by
     have : (Ins.body :: is).contains .name = false := by simpa using hwf.1
     rw [this] at hw; simpa using hw
    have hla := hlast rfl
    obtain ⟨ns1, hn1, hp1⟩ := body_yes hY fs.word (fs.parts.getLastD (-1)) he hm st hl hf
    have hw' : (if is.contains .name then nm else fs.word) = nm0 := by rw [hwf.1]; simpa using hw0
    have hlen := hn1.len
    obtain ⟨t', ns, h2, h3, h4⟩ := ih r1 nm rg kids1 r h1 hwf.2 (by omega) (pBody pE fs.word (fs.parts.getLastD (-1)) st).2 { fs with parts := fs.parts ++ [(pBody pE fs.word (fs.parts.getLastD (-1)) st).1] } nm0 (by rw [hp1]) (by rw [hp1]; exact hf)
     (fun _ => by rw [hp1]; simp [hlen]) hw'
    refine ⟨t', ns1 ++ ns, h2, ?_, ?_⟩
    ·rw [hp1] at h3
     simp only [bodsI, NAs]
     simp only [List.length_append, hlen] at h3
     rw [hw0, hla] at hn1
     exact ⟨ns1, ns, hn1, h3, rfl⟩
    ·simp only [pIns]
     rw [h4, hp1]
     simp [partsL, opnL, hlen]
theorem keeps_ins {pE : PS → Int × PS} (h : Keeps pE) (len : Nat) {q : Nat} : ∀ (is : List Ins) (fs : FS) (st : PS), st.stuck q → (pIns len pE is fs st).2.stuck q := by
 intro is
 induction is with
 | nil => intro fs st hs; exact hs
 | cons i is ih =>
  intro fs st hs
  cases i with
  | name => exact ih _ _ (stuck_expect hs)
  | region => exact ih _ _ (stuck_expect hs)
  | e => exact ih _ _ (h q st hs)
  | body => exact ih _ _ (keeps_body h _ _ hs)
theorem expect_no {len k : Nat} {st : PS} (hf : st.fl = none) (hk : (tk1 len st.l).kind ≠ k) : (st.expect len k).stuck (tk1 len st.l).at_ := by
 unfold PS.expect; rw [if_pos hk]
 exact fail_stuck hf
theorem ins_no {placed : Bool} {len : Nat} {pE : PS → Int × PS} {m : Nat} (hY : YesE placed pE m) (hN : NoE placed len pE m) (hK : Keeps pE) : ∀ (is : List Ins) (l : List Tk), (¬ ∃ nm rg kids r, PW placed (is.map Ins.wt ++ [.close]) l nm rg kids r) →
  l.length ≤ m → ∀ (st : PS) (fs : FS), st.l = l → st.fl = none → ∃ q, (∀ p, formRun placed len l (is.map Ins.wt ++ .close :: p) = some q) ∧ ((pIns len pE is fs st).2.expect len 3).stuck q := by
 intro is
 induction is with
 | nil =>
  intro l h hm st fs hl hf
  simp only [List.map_nil, List.nil_append, pIns] at h ⊢
  cases l with
  | nil => exact ⟨len, fun p => rfl, by have := expect_no (len := len) (k := 3) hf (by rw [hl]; simp [tk1]); rw [hl] at this; exact this⟩
  | cons t r =>
   by_cases hc : t.c = .cls
   ·exact absurd ⟨_, _, _, _, .close hc .nil⟩ h
   ·refine ⟨t.at_, fun p => by simp only [formRun, if_neg hc], ?_⟩
    have := expect_no (len := len) (k := 3) hf (by rw [hl]; exact fun e => hc ((kindN_cls _).1 e))
    rw [hl] at this; exact this
 | cons i is ih =>
  intro l h hm st fs hl hf
  cases i with
  | name =>
   simp only [List.map_cons, Ins.wt, List.cons_append] at h ⊢
   simp only [pIns]
   cases l with
   | nil =>
    refine ⟨len, fun p => rfl, ?_⟩
    have := expect_no (len := len) (k := 4) hf (by rw [hl]; simp [tk1])
    rw [hl] at this
    exact stuck_expect (keeps_ins hK len is _ _ this)
   | cons t r =>
    by_cases hc : t.c = .nam
    ·have hk : (tk1 len st.l).kind = 4 := by rw [hl]; exact (kindN_nam _).2 hc
     have hex : st.expect len 4 = { st with l := r } := by
      unfold PS.expect; rw [if_neg (by simp [hk])]; simp [PS.tail, hl]
     rw [hex]
     obtain ⟨q, h1, h2⟩ := ih r (fun ⟨nm, rg, kids, r', hp⟩ => h ⟨_, _, _, _, .name hc hp⟩) (by simp at hm; omega) { st with l := r } { fs with word := (tk1 len st.l).word } rfl hf
     exact ⟨q, fun p => by simp only [formRun, if_pos hc]; exact h1 p, h2⟩
    ·refine ⟨t.at_, fun p => by simp only [formRun, if_neg hc], ?_⟩
     have := expect_no (len := len) (k := 4) hf (by rw [hl]; exact fun e => hc ((kindN_nam _).1 e))
     rw [hl] at this
     exact stuck_expect (keeps_ins hK len is _ _ this)
  | region =>
   simp only [List.map_cons, Ins.wt, List.cons_append] at h ⊢
   simp only [pIns]
   cases l with
   | nil =>
    refine ⟨len, fun p => rfl, ?_⟩
    have := expect_no (len := len) (k := 6) hf (by rw [hl]; simp [tk1])
    rw [hl] at this
    exact stuck_expect (keeps_ins hK len is _ _ this)
   | cons t r =>
    by_cases hc : t.c = .reg
    ·have hk : (tk1 len st.l).kind = 6 := by rw [hl]; exact (kindN_reg _).2 hc
     have hex : st.expect len 6 = { st with l := r } := by
      unfold PS.expect; rw [if_neg (by simp [hk])]; simp [PS.tail, hl]
     rw [hex]
     obtain ⟨q, h1, h2⟩ := ih r (fun ⟨nm, rg, kids, r', hp⟩ => h ⟨_, _, _, _, .region hc hp⟩) (by simp at hm; omega) { st with l := r } { fs with region := (tk1 len st.l).num } rfl hf
     exact ⟨q, fun p => by simp only [formRun, if_pos hc]; exact h1 p, h2⟩
    ·refine ⟨t.at_, fun p => by simp only [formRun, if_neg hc], ?_⟩
     have := expect_no (len := len) (k := 6) hf (by rw [hl]; exact fun e => hc ((kindN_reg _).1 e))
     rw [hl] at this
     exact stuck_expect (keeps_ins hK len is _ _ this)
  | e =>
   simp only [List.map_cons, Ins.wt, List.cons_append] at h ⊢
   simp only [pIns]
   by_cases he : ∃ e r, PE placed l e r
   ·obtain ⟨e, r, he⟩ := he
    obtain ⟨ns1, hn1, hp1⟩ := hY l e r he hm st hl hf
    have hlt := he.len
    obtain ⟨q, h1, h2⟩ := ih r (fun ⟨nm, rg, kids, r', hp⟩ => h ⟨_, _, _, _, .e he hp⟩) (by omega) (pE st).2 { fs with parts := fs.parts ++ [(pE st).1] } (by rw [hp1]) (by rw [hp1]; exact hf)
    exact ⟨q, fun p => by rw [he.sound]; exact h1 p, h2⟩
   ·obtain ⟨q, h1, h2⟩ := hN l hm he st hl hf
    exact ⟨q, fun p => h1 _, stuck_expect (keeps_ins hK len is _ _ h2)⟩
  | body =>
   simp only [List.map_cons, Ins.wt, List.cons_append] at h ⊢
   simp only [pIns]
   by_cases he : ∃ e r, PE placed l e r
   ·obtain ⟨e, r, he⟩ := he
    obtain ⟨ns1, hn1, hp1⟩ := body_yes hY fs.word (fs.parts.getLastD (-1)) he hm st hl hf
    have hlt := he.len
    obtain ⟨q, h1, h2⟩ := ih r (fun ⟨nm, rg, kids, r', hp⟩ => h ⟨_, _, _, _, .e he hp⟩) (by omega) (pBody pE fs.word (fs.parts.getLastD (-1)) st).2 { fs with parts := fs.parts ++ [(pBody pE fs.word (fs.parts.getLastD (-1)) st).1] } (by rw [hp1]) (by rw [hp1]; exact hf)
    exact ⟨q, fun p => by rw [he.sound]; exact h1 p, h2⟩
   ·obtain ⟨q, h1, h2⟩ := hN l hm he { st with scope := st.scope ++ [(fs.word, fs.parts.getLastD (-1))] } hl hf
    exact ⟨q, fun p => h1 _, stuck_expect (keeps_ins hK len is _ _ h2)⟩
structure MV where
 c : Bool
 n : Int
structure MC where
 a : MV
 b : MV
 home : Nat
 ser : Nat
structure MR where
 num : Int
 ser : Nat
 cells : Nat
structure MM where
 steps : Nat
 fault : Nat
 named : List MV
 cells : List MC
 regs : List MR
 opened : Nat
 live : Int
 most : Int
def v0 : MV := ⟨false, 0⟩
def c0 : MC := ⟨v0, v0, 0, 0⟩
def MM.stop (m : MM) (f : Nat) : MM := if m.fault = 0 then { m with fault := f } else m
def MM.opn (m : MM) (k : Int) : MM := { m with regs := m.regs ++ [⟨k, m.opened, 0⟩], opened := m.opened + 1 }
def MM.fin (m : MM) : MM := match m.regs.getLast? with
 | none => m
 | some r => { m with live := m.live - r.cells, regs := m.regs.dropLast }
def homeF (l : List MR) (k : Int) : Nat → Nat
 | 0 => 0
 | i + 1 => if (l[i + 1]?).map (·.num) = some k then i + 1 else homeF l k i
def MM.home (m : MM) (k : Int) : Nat := homeF m.regs k (m.regs.length - 1)
def MM.newCell (m : MM) (k : Int) (a b : MV) : MV × MM := match m.regs[m.home k]? with
 | none => (v0, m)
 | some r => (⟨true, m.cells.length⟩, { m with regs := m.regs.set (m.home k) { r with cells := r.cells + 1 }, cells := m.cells ++ [⟨a, b, m.home k, r.ser⟩], live := m.live + 1, most := if m.most < m.live + 1 then m.live + 1 else m.most })
def MM.isLive (m : MM) (c : MC) : Bool := match m.regs[c.home]? with
 | some r => r.ser == c.ser
 | none => false
def MM.use (m : MM) (v : MV) : MC × MM :=
 if v.c = false ∨ v.n < 0 ∨ (m.cells.length : Int) ≤ v.n then (c0, m)
 else (m.cells.getD v.n.toNat c0, if m.isLive (m.cells.getD v.n.toNat c0) = true then m else m.stop 13)
def MM.name (m : MM) (i : Int) (v : MV) : MM := if 0 ≤ i ∧ i < m.named.length then { m with named := m.named.set i.toNat v } else m
def MM.look (m : MM) (i : Int) : MV := if i < 0 ∨ (m.named.length : Int) ≤ i then v0 else m.named.getD i.toNat v0
def mBegun (fuel : Nat) (m : MM) (f : MM → MV × MM) : MV × MM :=
 let m1 := if fuel ≤ m.steps then m.stop 12 else m
 if m1.fault ≠ 0 then (v0, m1) else f { m1 with steps := m1.steps + 1 }
def mTurns (i : Int) (f : MM → MV × MM) : Nat → MV → MM → MV × MM
 | 0, x, m => (x, m)
 | k + 1, x, m => if m.fault ≠ 0 then (x, m) else mTurns i f k (f (m.name i x)).1 (f (m.name i x)).2
def mArith (k : Kw) (a b : Int) : Int :=
 if k = .add then Int.tmod (a + b) 10000 else if k = .sub then Int.tmod (a + 10000 - b) 10000 else if a < b then 1 else 0
mutual
def mW (fuel : Nat) : PT → Sc → Nat → MM → MV × MM
 | .num _ s, _, _, m => mBegun fuel m (fun m => (⟨false, valueL s⟩, m))
 | .name _ s, sc, _, m => mBegun fuel m (fun m => (m.look (findS sc s), m))
 | .node _ k nm rg kids, sc, base, m =>
  if k = .new then mNew fuel (valueL rg) kids sc base m
  else mBegun fuel m (fun m =>
   if k = .let_ then mLet fuel nm kids sc base m
   else if k = .if_ then mIf fuel kids sc base m
   else if k = .loop then mLoop fuel nm kids sc base m
   else mOps fuel k (valueL rg) kids sc base m)
def mNew (fuel : Nat) (rg : Int) : List PT → Sc → Nat → MM → MV × MM
 | [a], sc, base, m =>
  let x := mW fuel a sc base (m.opn rg)
  (x.1, x.2.fin)
 | _, _, _, m => (v0, m)
def mLet (fuel : Nat) (nm : List UInt8) : List PT → Sc → Nat → MM → MV × MM
 | [a, b], sc, base, m =>
  let x := mW fuel a sc base m
  mW fuel b (sc ++ [(nm, ((base + a.cnt : Nat) : Int) - 1)]) (base + a.cnt) (x.2.name (((base + a.cnt : Nat) : Int) - 1) x.1)
 | _, _, _, m => (v0, m)
def mIf (fuel : Nat) : List PT → Sc → Nat → MM → MV × MM
 | [a, b, c], sc, base, m =>
  let x := mW fuel a sc base m
  if x.1.n ≠ 0 then mW fuel b sc (base + a.cnt) x.2 else mW fuel c sc (base + a.cnt + b.cnt) x.2
 | _, _, _, m => (v0, m)
def mLoop (fuel : Nat) (nm : List UInt8) : List PT → Sc → Nat → MM → MV × MM
 | [a, b, c], sc, base, m =>
  let x := mW fuel a sc base m
  let y := mW fuel b sc (base + a.cnt) x.2
  mTurns (((base + a.cnt + b.cnt : Nat) : Int) - 1) (fun m => mW fuel c (sc ++ [(nm, ((base + a.cnt + b.cnt : Nat) : Int) - 1)]) (base + a.cnt + b.cnt) m) x.1.n.toNat y.1 y.2
 | _, _, _, m => (v0, m)
def mOps (fuel : Nat) (k : Kw) (rg : Int) : List PT → Sc → Nat → MM → MV × MM
 | [a], sc, base, m =>
  let x := mW fuel a sc base m
  let c := x.2.use x.1
  (if k = .fst then c.1.a else c.1.b, c.2)
 | [a, b], sc, base, m =>
  let x := mW fuel a sc base m
  let y := mW fuel b sc (base + a.cnt) x.2
  if k = .pair then y.2.newCell rg x.1 y.1 else (⟨false, mArith k x.1.n y.1.n⟩, y.2)
 | _, _, _, m => (v0, m)
end
def MV.bd (v : MV) : Prop := -30000 ≤ v.n ∧ v.n ≤ 30000
def sumC : List MR → Nat
 | [] => 0
 | r :: l => r.cells + sumC l
structure MBd (fuel : Nat) (m : MM) : Prop where
 steps : m.steps ≤ fuel
 cells : m.cells.length ≤ m.steps
 live : m.live = sumC m.regs
 sum : sumC m.regs ≤ m.cells.length
 most : 0 ≤ m.most ∧ m.most ≤ m.cells.length
 named : ∀ v ∈ m.named, v.bd
 cell : ∀ c ∈ m.cells, c.a.bd ∧ c.b.bd ∧ c.home ≤ 20000 ∧ c.ser ≤ m.opened
 regs : m.regs.length ≤ 20000
 ser : ∀ r ∈ m.regs, r.ser ≤ m.opened ∧ -1 ≤ r.num ∧ r.num ≤ 9999
theorem v0_bd : v0.bd := by simp [v0, MV.bd]
theorem MM.stop_bd {fuel : Nat} {m : MM} (h : MBd fuel m) (f : Nat) : MBd fuel (m.stop f) := by
 unfold MM.stop; split
 ·exact ⟨h.steps, h.cells, h.live, h.sum, h.most, h.named, h.cell, h.regs, h.ser⟩
 ·exact h
theorem sumC_append (a b : List MR) : sumC (a ++ b) = sumC a + sumC b := by induction a <;> simp [sumC, *]; omega
theorem sumC_set : ∀ (l : List MR) (i : Nat) (r r' : MR), l[i]? = some r → sumC (l.set i r') + r.cells = sumC l + r'.cells
 | [], i, r, r', h => by simp at h
 | a :: l, 0, r, r', h => by simp at h; subst h; simp [sumC]; omega
 | a :: l, i + 1, r, r', h => by
  have := sumC_set l i r r' (by simpa using h)
  simp [sumC]; omega
theorem MM.opn_bd {fuel : Nat} {m : MM} (h : MBd fuel m) (k : Int) (hk : -1 ≤ k ∧ k ≤ 9999) (hr : m.regs.length + 1 ≤ 20000) : MBd fuel (m.opn k) := by
 refine ⟨h.steps, h.cells, ?_, ?_, h.most, h.named, ?_, ?_, ?_⟩
 ·simp [MM.opn, sumC_append, sumC, h.live]
 ·simp [MM.opn, sumC_append, sumC]; exact h.sum
 ·intro c hc
  have := h.cell c hc
  exact ⟨this.1, this.2.1, this.2.2.1, Nat.le_succ_of_le this.2.2.2⟩
 ·simp [MM.opn]; omega
 ·intro r hr
  simp only [MM.opn, List.mem_append, List.mem_singleton] at hr
  rcases hr with hr | rfl
  ·have := h.ser r hr; exact ⟨Nat.le_succ_of_le this.1, this.2⟩
  ·exact ⟨Nat.le_succ _, hk⟩
theorem MM.fin_bd {fuel : Nat} {m : MM} (h : MBd fuel m) : MBd fuel m.fin := by
 cases hl : m.regs.getLast? with
 | none => unfold MM.fin; rw [hl]; exact h
 | some r =>
  have ef : m.fin = { m with live := m.live - r.cells, regs := m.regs.dropLast } := by unfold MM.fin; rw [hl]
  rw [ef]
  have e : m.regs.dropLast ++ [r] = m.regs := by
   rw [List.getLast?_eq_some_iff] at hl
   obtain ⟨ys, hy⟩ := hl
   rw [hy]; simp
  have hs : sumC m.regs = sumC m.regs.dropLast + r.cells := by
   conv => lhs; rw [← e]
   simp [sumC_append, sumC]
  have h1 := h.live
  have h2 := h.sum
  refine ⟨h.steps, h.cells, ?_, ?_, h.most, h.named, h.cell, ?_, ?_⟩
  ·show m.live - r.cells = ((sumC m.regs.dropLast : Nat) : Int); rw [h1, hs]; omega
  ·show sumC m.regs.dropLast ≤ m.cells.length; omega
  ·show m.regs.dropLast.length ≤ _; have := h.regs; simp; omega
  ·intro x hx
   exact h.ser x (by rw [← e]; exact List.mem_append_left _ hx)
theorem MM.newCell_bd {fuel : Nat} {m : MM} (h : MBd fuel m) (k : Int) (a b : MV) (ha : a.bd) (hb : b.bd) (hc : m.cells.length < m.steps) (hf : fuel ≤ 20000) : MBd fuel (m.newCell k a b).2 ∧ (m.newCell k a b).1.bd := by
 cases hr : m.regs[m.home k]? with
 | none => unfold MM.newCell; rw [hr]; exact ⟨h, v0_bd⟩
 | some r =>
  have ef : m.newCell k a b = (⟨true, m.cells.length⟩, { m with regs := m.regs.set (m.home k) { r with cells := r.cells + 1 }, cells := m.cells ++ [⟨a, b, m.home k, r.ser⟩], live := m.live + 1, most := if m.most < m.live + 1 then m.live + 1 else m.most }) := by unfold MM.newCell; rw [hr]
  rw [ef]
  have h1 := h.live
  have h2 := h.sum
  have h3 := h.most
  have hm := List.mem_of_getElem? hr
  have h4 := sumC_set m.regs (m.home k) r { r with cells := r.cells + 1 } hr
  simp only at h4
  have hlt := (List.getElem?_eq_some_iff.1 hr).1
  have hst := h.steps
  refine ⟨⟨h.steps, ?_, ?_, ?_, ?_, h.named, ?_, ?_, ?_⟩, ?_⟩
  ·simp; omega
  ·show m.live + 1 = ((sumC (m.regs.set (m.home k) { r with cells := r.cells + 1 }) : Nat) : Int); rw [h1]; omega
  ·show sumC (m.regs.set (m.home k) { r with cells := r.cells + 1 }) ≤ (m.cells ++ _).length; simp only [List.length_append, List.length_cons, List.length_nil]; omega
  ·show 0 ≤ (if m.most < m.live + 1 then m.live + 1 else m.most) ∧ (if m.most < m.live + 1 then m.live + 1 else m.most) ≤ ((m.cells ++ _).length : Int)
   simp only [List.length_append, List.length_cons, List.length_nil]
   split <;> omega
  ·intro c hc
   simp only [List.mem_append, List.mem_singleton] at hc
   rcases hc with hc | rfl
   ·exact h.cell c hc
   ·refine ⟨ha, hb, ?_, (h.ser r hm).1⟩
    have := h.regs
    show m.home k ≤ 20000
    omega
  ·show (m.regs.set _ _).length ≤ _; rw [List.length_set]; exact h.regs
  ·intro x hx
   rcases List.mem_or_eq_of_mem_set hx with hx | rfl
   ·exact h.ser x hx
   ·exact h.ser r hm
  ·simp only [MV.bd]; omega
theorem getD_mem {α : Type} (l : List α) (i : Nat) (d : α) (h : i < l.length) : l.getD i d ∈ l := by
 rw [List.getD_eq_getElem?_getD, List.getElem?_eq_getElem h]; simp
theorem MM.use_bd {fuel : Nat} {m : MM} (h : MBd fuel m) (v : MV) : MBd fuel (m.use v).2 ∧ (m.use v).1.a.bd ∧ (m.use v).1.b.bd := by
 unfold MM.use
 split
 ·exact ⟨h, v0_bd, v0_bd⟩
 ·rename_i hn
  have hlt : v.n.toNat < m.cells.length := by omega
  have hm := h.cell _ (getD_mem m.cells v.n.toNat c0 hlt)
  refine ⟨?_, hm.1, hm.2.1⟩
  simp only
  split
  ·exact h
  ·exact MM.stop_bd h 13
theorem MM.name_bd {fuel : Nat} {m : MM} (h : MBd fuel m) (i : Int) (v : MV) (hv : v.bd) : MBd fuel (m.name i v) := by
 unfold MM.name
 split
 ·refine ⟨h.steps, h.cells, h.live, h.sum, h.most, ?_, h.cell, h.regs, h.ser⟩
  intro x hx
  rcases List.mem_or_eq_of_mem_set hx with hx | rfl
  ·exact h.named x hx
  ·exact hv
 ·exact h
theorem MM.look_bd {fuel : Nat} {m : MM} (h : MBd fuel m) (i : Int) : (m.look i).bd := by
 unfold MM.look
 split
 ·exact v0_bd
 ·exact h.named _ (getD_mem _ _ _ (by omega))
theorem arith_bd (k : Kw) (a b : Int) : (⟨false, mArith k a b⟩ : MV).bd := by
 unfold MV.bd mArith
 simp only
 have h1 := Int.tmod_lt_of_pos (a + b) (show (0 : Int) < 10000 by omega)
 have h2 := Int.tmod_lt_of_pos (a + 10000 - b) (show (0 : Int) < 10000 by omega)
 have h3 := Int.lt_tmod_of_pos (a + b) (show (0 : Int) < 10000 by omega)
 have h4 := Int.lt_tmod_of_pos (a + 10000 - b) (show (0 : Int) < 10000 by omega)
 split
 ·omega
 ·split
  ·omega
  ·split <;> omega
structure Grow (n : Nat) (m m' : MM) : Prop where
 st : m.steps ≤ m'.steps
 fl : m.fault ≠ 0 → m'.fault ≠ 0 ∧ m'.steps = m.steps
 op : m'.opened + 20000 * m.steps + (if m'.fault = 0 then 20000 else 0) ≤ m.opened + 20000 * m'.steps + n
 rg : m'.regs.length = m.regs.length
 nm : m'.named.length = m.named.length
 cl : m'.cells.length + m.steps ≤ m.cells.length + m'.steps
structure Inner (n s : Nat) (m m' : MM) : Prop where
 st : m.steps ≤ m'.steps
 op : m'.opened + 20000 * m.steps ≤ m.opened + 20000 * m'.steps + n
 rg : m'.regs.length = m.regs.length
 nm : m'.named.length = m.named.length
 cl : m'.cells.length + m.steps ≤ m.cells.length + m'.steps + s
theorem Inner.refl (m : MM) : Inner 0 0 m m := ⟨Nat.le_refl _, by omega, rfl, rfl, by omega⟩
theorem Grow.inner {n : Nat} {m m' : MM} (h : Grow n m m') : Inner n 0 m m' := ⟨h.st, by have := h.op; split at this <;> omega, h.rg, h.nm, by have := h.cl; omega⟩
theorem Inner.trans {n n' s s' : Nat} {m m1 m2 : MM} (h : Inner n s m m1) (h' : Inner n' s' m1 m2) : Inner (n + n') (s + s') m m2 := by
 have := h.st; have := h'.st; have := h.op; have := h'.op; have := h.cl; have := h'.cl
 exact ⟨by omega, by omega, h'.rg.trans h.rg, h'.nm.trans h.nm, by omega⟩
theorem Inner.le {n n' s s' : Nat} {m m1 : MM} (h : Inner n s m m1) (hn : n ≤ n') (hs : s ≤ s') : Inner n' s' m m1 := by
 have := h.op; have := h.cl
 exact ⟨h.st, by omega, h.rg, h.nm, by omega⟩
theorem stop_inner (m : MM) (f : Nat) : Inner 0 0 m (m.stop f) := by
 unfold MM.stop; split
 ·exact ⟨Nat.le_refl _, by simp only; omega, rfl, rfl, by simp only; omega⟩
 ·exact Inner.refl m
theorem use_inner (m : MM) (v : MV) : Inner 0 0 m (m.use v).2 := by
 unfold MM.use; split
 ·exact Inner.refl m
 ·simp only; split
  ·exact Inner.refl m
  ·exact stop_inner m 13
theorem name_inner (m : MM) (i : Int) (v : MV) : Inner 0 0 m (m.name i v) := by
 unfold MM.name; split
 ·exact ⟨Nat.le_refl _, by simp only; omega, rfl, by simp, by simp only; omega⟩
 ·exact Inner.refl m
theorem name_fault (m : MM) (i : Int) (v : MV) : (m.name i v).fault = m.fault ∧ (m.name i v).steps = m.steps := by unfold MM.name; split <;> exact ⟨rfl, rfl⟩
theorem cell_inner (m : MM) (k : Int) (a b : MV) : Inner 0 1 m (m.newCell k a b).2 := by
 cases hr : m.regs[m.home k]? with
 | none => unfold MM.newCell; rw [hr]; exact (Inner.refl m).le (Nat.le_refl _) (by omega)
 | some r =>
  have ef : m.newCell k a b = (⟨true, m.cells.length⟩, { m with regs := m.regs.set (m.home k) { r with cells := r.cells + 1 }, cells := m.cells ++ [⟨a, b, m.home k, r.ser⟩], live := m.live + 1, most := if m.most < m.live + 1 then m.live + 1 else m.most }) := by unfold MM.newCell; rw [hr]
  rw [ef]
  exact ⟨Nat.le_refl _, by simp only; omega, by simp, rfl, by simp; omega⟩
def MKeeps (fuel n : Nat) (m : MM) (x : MV × MM) : Prop := MBd fuel x.2 ∧ x.1.bd ∧ Grow n m x.2
def MKeepsI (fuel n s : Nat) (m : MM) (x : MV × MM) : Prop := MBd fuel x.2 ∧ x.1.bd ∧ Inner n s m x.2
theorem begun_keeps {fuel n : Nat} {m : MM} {f : MM → MV × MM} (h : MBd fuel m) (hf : m.fault = 0 → m.steps < fuel → MBd fuel { m with steps := m.steps + 1 } → MKeepsI fuel n 1 { m with steps := m.steps + 1 } (f { m with steps := m.steps + 1 })) : MKeeps fuel (1 + n) m (mBegun fuel m f) := by
 unfold mBegun
 by_cases hfu : fuel ≤ m.steps
 ·simp only [if_pos hfu]
  have hne : (m.stop 12).fault ≠ 0 := by unfold MM.stop; split <;> simp_all
  simp only [if_pos hne]
  have hi := stop_inner m 12
  have hs : (m.stop 12).steps = m.steps := by unfold MM.stop; split <;> rfl
  refine ⟨MM.stop_bd h 12, v0_bd, ⟨hi.st, fun _ => ⟨hne, hs⟩, ?_, hi.rg, hi.nm, ?_⟩⟩
  ·have := hi.op; rw [if_neg hne]; simp only at this ⊢; omega
  ·have := hi.cl; simp only at this ⊢; omega
 ·simp only [if_neg hfu]
  by_cases hz : m.fault = 0
  ·rw [if_neg (fun hn => hn hz)]
   have hst := h.steps
   have hb : MBd fuel { m with steps := m.steps + 1 } := ⟨by simp only; omega, Nat.le_succ_of_le h.cells, h.live, h.sum, h.most, h.named, h.cell, h.regs, h.ser⟩
   obtain ⟨h1, h2, h3⟩ := hf hz (by omega) hb
   generalize f { m with steps := m.steps + 1 } = y at h1 h2 h3
   have q1 := h3.st; have q2 := h3.op; have q3 := h3.cl
   simp only at q1 q2 q3
   have q4 : (if y.2.fault = 0 then 20000 else 0) ≤ 20000 := by split <;> decide
   exact ⟨h1, h2, ⟨by omega, fun hn => absurd hz hn, by omega, h3.rg, h3.nm, by omega⟩⟩
  ·simp only [if_pos hz]
   exact ⟨h, v0_bd, ⟨Nat.le_refl _, fun _ => ⟨hz, rfl⟩, by simp only [if_neg hz]; omega, rfl, rfl, by simp only; omega⟩⟩
theorem turns_keeps {fuel n : Nat} (hn : n ≤ 20000) {i : Int} {f : MM → MV × MM} {R : Nat} (hf : ∀ m, MBd fuel m → m.regs.length = R → MKeeps fuel n m (f m)) : ∀ (k : Nat) (x : MV) (m : MM), MBd fuel m → x.bd → m.regs.length = R → MKeepsI fuel n 0 m (mTurns i f k x m)
 | 0, x, m, hm, hx, _ => ⟨hm, hx, (Inner.refl m).le (Nat.zero_le _) (Nat.le_refl _)⟩
 | k + 1, x, m, hm, hx, hR => by
  simp only [mTurns]
  split
  ·exact ⟨hm, hx, (Inner.refl m).le (Nat.zero_le _) (Nat.le_refl _)⟩
  ·rename_i hz
   have hz : m.fault = 0 := by simpa using hz
   have hni := name_inner m i x
   obtain ⟨h1, h2, h3⟩ := hf (m.name i x) (MM.name_bd hm i x hx) (hni.rg.trans hR)
   have hnf := name_fault m i x
   have ih := turns_keeps (i := i) hn hf k (f (m.name i x)).1 (f (m.name i x)).2 h1 h2 (h3.rg.trans (hni.rg.trans hR))
   by_cases hf1 : (f (m.name i x)).2.fault = 0
   ·refine ⟨ih.1, ih.2.1, ?_⟩
    have a := ih.2.2
    have q1 := h3.op
    rw [if_pos hf1] at q1
    have q2 := hni.op; have q3 := hni.cl; have q4 := h3.cl; have q5 := h3.st; have q6 := a.op; have q7 := a.cl; have q8 := a.st
    exact ⟨by omega, by omega, a.rg.trans (h3.rg.trans hni.rg), a.nm.trans (h3.nm.trans hni.nm), by omega⟩
   ·have e : mTurns i f k (f (m.name i x)).1 (f (m.name i x)).2 = ((f (m.name i x)).1, (f (m.name i x)).2) := by
     cases k with
     | zero => rfl
     | succ k => simp only [mTurns]; rw [if_pos hf1]
    rw [e]
    have := hni.trans h3.inner
    exact ⟨h1, h2, this.le (by omega) (by omega)⟩
mutual
def PT.rgd : PT → Prop
 | .num _ s => 0 ≤ valueL s ∧ valueL s ≤ 9999
 | .name _ _ => True
 | .node _ _ _ rg kids => (0 ≤ valueL rg ∧ valueL rg ≤ 9999) ∧ rgdL kids
def rgdL : List PT → Prop
 | [] => True
 | t :: r => t.rgd ∧ rgdL r
end
mutual
theorem mW_keeps (fuel : Nat) (hfu : fuel ≤ 20000) : ∀ (t : PT) (sc : Sc) (base : Nat) (m : MM), t.wf → t.rgd → MBd fuel m → m.regs.length + t.cnt ≤ 20000 → MKeeps fuel t.cnt m (mW fuel t sc base m)
 | .num p s, sc, base, m, _, hr, hb, _ => by
  simp only [PT.rgd] at hr
  simp only [mW, PT.cnt]
  exact begun_keeps (n := 0) hb (fun _ _ hb => ⟨hb, by simp only [MV.bd]; omega, (Inner.refl _).le (Nat.le_refl _) (by omega)⟩)
 | .name p s, sc, base, m, _, _, hb, _ => by
  simp only [mW, PT.cnt]
  exact begun_keeps (n := 0) hb (fun _ _ hb => ⟨hb, MM.look_bd hb _, (Inner.refl _).le (Nat.le_refl _) (by omega)⟩)
 | .node p k nm rg kids, sc, base, m, hw, hr, hb, hl => by
  simp only [PT.wf] at hw
  simp only [PT.rgd] at hr
  simp only [PT.cnt] at hl
  simp only [mW, PT.cnt]
  by_cases hk : k = .new
  ·subst hk
   simp only [if_pos]
   exact mNew_keeps fuel hfu (valueL rg) (by omega) kids sc base m hw.1 hw.2 hr.2 hb hl
  ·simp only [if_neg hk]
   refine begun_keeps hb (fun hz hlt hb1 => ?_)
   by_cases hk1 : k = .let_
   ·subst hk1
    simp only [if_pos]
    exact mLet_keeps fuel hfu nm kids sc base _ hw.1 hw.2 hr.2 hb1 (by simp only; omega)
   ·simp only [if_neg hk1]
    by_cases hk2 : k = .if_
    ·subst hk2
     simp only [if_pos]
     exact mIf_keeps fuel hfu kids sc base _ hw.1 hw.2 hr.2 hb1 (by simp only; omega)
    ·simp only [if_neg hk2]
     by_cases hk3 : k = .loop
     ·subst hk3
      simp only [if_pos]
      exact mLoop_keeps fuel hfu nm kids sc base _ hw.1 hw.2 hr.2 hb1 (by simp only; omega)
     ·simp only [if_neg hk3]
      have := hb.cells
      exact mOps_keeps fuel hfu k (valueL rg) kids sc base _ hw.2 hr.2 hb1 (by simp only; omega) (by simp only; omega)
theorem mNew_keeps (fuel : Nat) (hfu : fuel ≤ 20000) (rg : Int) (hrg : -1 ≤ rg ∧ rg ≤ 9999) : ∀ (ts : List PT) (sc : Sc) (base : Nat) (m : MM), ts.length = arity .new → wfL ts → rgdL ts → MBd fuel m → m.regs.length + (1 + cntL ts) ≤ 20000 → MKeeps fuel (1 + cntL ts) m (mNew fuel rg ts sc base m)
 | [a], sc, base, m, _, hw, hr, hb, hl => by
  simp only [wfL] at hw
  simp only [rgdL] at hr
  simp only [cntL] at hl
  simp only [mNew, cntL]
  have h0 := MM.opn_bd hb rg hrg (by omega)
  have ho : (m.opn rg).regs.length = m.regs.length + 1 := by simp [MM.opn]
  obtain ⟨h1, h2, h3⟩ := mW_keeps fuel hfu a sc base (m.opn rg) hw.1 hr.1 h0 (by omega)
  have e1 : (m.opn rg).steps = m.steps := rfl
  have e2 : (m.opn rg).fault = m.fault := rfl
  have e3 : (m.opn rg).opened = m.opened + 1 := rfl
  have e4 : (m.opn rg).named = m.named := rfl
  have e5 : (m.opn rg).cells = m.cells := rfl
  generalize mW fuel a sc base (m.opn rg) = x at h1 h2 h3
  have hrl := h3.rg
  have hfin : x.2.fin.steps = x.2.steps ∧ x.2.fin.fault = x.2.fault ∧ x.2.fin.opened = x.2.opened ∧ x.2.fin.named = x.2.named ∧ x.2.fin.cells = x.2.cells ∧ x.2.fin.regs.length = x.2.regs.length - 1 := by
   unfold MM.fin
   cases hg : x.2.regs.getLast? with
   | none => have : x.2.regs = [] := by simpa using hg
             rw [this] at hrl; simp at hrl; omega
   | some r => exact ⟨rfl, rfl, rfl, rfl, rfl, by simp⟩
  obtain ⟨f1, f2, f3, f4, f5, f6⟩ := hfin
  have g1 := h3.st; have g2 := h3.fl; have g3 := h3.op; have g4 := h3.nm; have g5 := h3.cl
  rw [e1] at g1 g2 g3 g5
  rw [e2] at g2
  rw [e3] at g3
  rw [e4] at g4
  rw [e5] at g5
  refine ⟨MM.fin_bd h1, h2, ⟨by rw [f1]; exact g1, by rw [f1, f2]; exact g2, ?_, by rw [f6]; omega, by rw [f4]; exact g4, by rw [f5, f1]; exact g5⟩⟩
  rw [f3, f2, f1]
  omega
 | [], _, _, _, hl, _, _, _, _ => by simp [arity] at hl
 | _ :: _ :: _, _, _, _, hl, _, _, _, _ => by simp [arity] at hl
theorem mLet_keeps (fuel : Nat) (hfu : fuel ≤ 20000) (nm : List UInt8) : ∀ (ts : List PT) (sc : Sc) (base : Nat) (m : MM), ts.length = arity .let_ → wfL ts → rgdL ts → MBd fuel m → m.regs.length + (1 + cntL ts) ≤ 20000 → MKeepsI fuel (cntL ts) 1 m (mLet fuel nm ts sc base m)
 | [a, b], sc, base, m, _, hw, hr, hb, hl => by
  simp only [wfL] at hw
  simp only [rgdL] at hr
  simp only [cntL] at hl
  simp only [mLet, cntL]
  obtain ⟨h1, h2, h3⟩ := mW_keeps fuel hfu a sc base m hw.1 hr.1 hb (by omega)
  generalize mW fuel a sc base m = x at h1 h2 h3
  have hrl := h3.rg
  have hn := name_inner x.2 (((base + a.cnt : Nat) : Int) - 1) x.1
  have hnr := hn.rg
  obtain ⟨k1, k2, k3⟩ := mW_keeps fuel hfu b (sc ++ [(nm, ((base + a.cnt : Nat) : Int) - 1)]) (base + a.cnt) _ hw.2.1 hr.2.1 (MM.name_bd h1 (((base + a.cnt : Nat) : Int) - 1) x.1 h2) (by omega)
  exact ⟨k1, k2, (h3.inner.trans (hn.trans k3.inner)).le (by omega) (by omega)⟩
 | [], _, _, _, hl, _, _, _, _ => by simp [arity] at hl
 | [_], _, _, _, hl, _, _, _, _ => by simp [arity] at hl
 | _ :: _ :: _ :: _, _, _, _, hl, _, _, _, _ => by simp [arity] at hl
theorem mIf_keeps (fuel : Nat) (hfu : fuel ≤ 20000) : ∀ (ts : List PT) (sc : Sc) (base : Nat) (m : MM), ts.length = arity .if_ → wfL ts → rgdL ts → MBd fuel m → m.regs.length + (1 + cntL ts) ≤ 20000 → MKeepsI fuel (cntL ts) 1 m (mIf fuel ts sc base m)
 | [a, b, c], sc, base, m, _, hw, hr, hb, hl => by
  simp only [wfL] at hw
  simp only [rgdL] at hr
  simp only [cntL] at hl
  simp only [mIf, cntL]
  obtain ⟨h1, h2, h3⟩ := mW_keeps fuel hfu a sc base m hw.1 hr.1 hb (by omega)
  generalize mW fuel a sc base m = x at h1 h2 h3
  have hrl := h3.rg
  split
  ·obtain ⟨k1, k2, k3⟩ := mW_keeps fuel hfu b sc (base + a.cnt) x.2 hw.2.1 hr.2.1 h1 (by omega)
   exact ⟨k1, k2, (h3.inner.trans k3.inner).le (by omega) (by omega)⟩
  ·obtain ⟨k1, k2, k3⟩ := mW_keeps fuel hfu c sc (base + a.cnt + b.cnt) x.2 hw.2.2.1 hr.2.2.1 h1 (by omega)
   exact ⟨k1, k2, (h3.inner.trans k3.inner).le (by omega) (by omega)⟩
 | [], _, _, _, hl, _, _, _, _ => by simp [arity] at hl
 | [_], _, _, _, hl, _, _, _, _ => by simp [arity] at hl
 | [_, _], _, _, _, hl, _, _, _, _ => by simp [arity] at hl
 | _ :: _ :: _ :: _ :: _, _, _, _, hl, _, _, _, _ => by simp [arity] at hl
theorem mLoop_keeps (fuel : Nat) (hfu : fuel ≤ 20000) (nm : List UInt8) : ∀ (ts : List PT) (sc : Sc) (base : Nat) (m : MM), ts.length = arity .loop → wfL ts → rgdL ts → MBd fuel m → m.regs.length + (1 + cntL ts) ≤ 20000 → MKeepsI fuel (cntL ts) 1 m (mLoop fuel nm ts sc base m)
 | [a, b, c], sc, base, m, _, hw, hr, hb, hl => by
  simp only [wfL] at hw
  simp only [rgdL] at hr
  simp only [cntL] at hl
  simp only [mLoop, cntL]
  obtain ⟨h1, h2, h3⟩ := mW_keeps fuel hfu a sc base m hw.1 hr.1 hb (by omega)
  generalize mW fuel a sc base m = x at h1 h2 h3
  have hrl := h3.rg
  obtain ⟨k1, k2, k3⟩ := mW_keeps fuel hfu b sc (base + a.cnt) x.2 hw.2.1 hr.2.1 h1 (by omega)
  generalize mW fuel b sc (base + a.cnt) x.2 = y at k1 k2 k3
  have hrl2 := k3.rg
  obtain ⟨l1, l2, l3⟩ := turns_keeps (n := c.cnt) (by omega) (i := ((base + a.cnt + b.cnt : Nat) : Int) - 1) (R := y.2.regs.length) (f := fun m => mW fuel c (sc ++ [(nm, ((base + a.cnt + b.cnt : Nat) : Int) - 1)]) (base + a.cnt + b.cnt) m)
   (fun m hm hR => mW_keeps fuel hfu c _ (base + a.cnt + b.cnt) m hw.2.2.1 hr.2.2.1 hm (by omega)) x.1.n.toNat y.1 y.2 k1 k2 rfl
  exact ⟨l1, l2, (h3.inner.trans (k3.inner.trans l3)).le (by omega) (by omega)⟩
 | [], _, _, _, hl, _, _, _, _ => by simp [arity] at hl
 | [_], _, _, _, hl, _, _, _, _ => by simp [arity] at hl
 | [_, _], _, _, _, hl, _, _, _, _ => by simp [arity] at hl
 | _ :: _ :: _ :: _ :: _, _, _, _, hl, _, _, _, _ => by simp [arity] at hl
theorem mOps_keeps (fuel : Nat) (hfu : fuel ≤ 20000) (k : Kw) (rg : Int) : ∀ (ts : List PT) (sc : Sc) (base : Nat) (m : MM), wfL ts → rgdL ts → MBd fuel m → m.regs.length + (1 + cntL ts) ≤ 20000 → m.cells.length < m.steps → MKeepsI fuel (cntL ts) 1 m (mOps fuel k rg ts sc base m)
 | [a], sc, base, m, hw, hr, hb, hl, _ => by
  simp only [wfL] at hw
  simp only [rgdL] at hr
  simp only [cntL] at hl
  simp only [mOps, cntL]
  obtain ⟨h1, h2, h3⟩ := mW_keeps fuel hfu a sc base m hw.1 hr.1 hb (by omega)
  generalize mW fuel a sc base m = x at h1 h2 h3
  have hu := MM.use_bd h1 x.1
  refine ⟨hu.1, ?_, (h3.inner.trans (use_inner x.2 x.1)).le (by omega) (by omega)⟩
  simp only
  split
  ·exact hu.2.1
  ·exact hu.2.2
 | [a, b], sc, base, m, hw, hr, hb, hl, hlt => by
  simp only [wfL] at hw
  simp only [rgdL] at hr
  simp only [cntL] at hl
  simp only [mOps, cntL]
  obtain ⟨h1, h2, h3⟩ := mW_keeps fuel hfu a sc base m hw.1 hr.1 hb (by omega)
  generalize mW fuel a sc base m = x at h1 h2 h3
  have hrl := h3.rg
  obtain ⟨k1, k2, k3⟩ := mW_keeps fuel hfu b sc (base + a.cnt) x.2 hw.2.1 hr.2.1 h1 (by omega)
  generalize mW fuel b sc (base + a.cnt) x.2 = y at k1 k2 k3
  have q1 := h3.cl; have q2 := k3.cl
  split
  ·have hc := MM.newCell_bd k1 rg x.1 y.1 h2 k2 (by omega) hfu
   exact ⟨hc.1, hc.2, (h3.inner.trans (k3.inner.trans (cell_inner y.2 rg x.1 y.1))).le (by omega) (by omega)⟩
  ·exact ⟨k1, arith_bd _ _ _, (h3.inner.trans k3.inner).le (by omega) (by omega)⟩
 | [], _, _, m, _, _, hb, _, _ => by simp only [mOps]; exact ⟨hb, v0_bd, (Inner.refl m).le (Nat.zero_le _) (by omega)⟩
 | _ :: _ :: _ :: _, _, _, m, _, _, hb, _, _ => by simp only [mOps]; exact ⟨hb, v0_bd, (Inner.refl m).le (Nat.zero_le _) (by omega)⟩
end
end Go.Proofs.YtpicaknklgccoaaGreatDoor
