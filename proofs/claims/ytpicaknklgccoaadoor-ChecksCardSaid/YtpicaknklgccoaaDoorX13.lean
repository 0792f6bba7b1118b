import Derived.Test.YtpicaknklgccoaaDoorX1
import Derived.Test.YtpicaknklgccoaaDoorProg
import Derived.WalkKit
import Derived.Test.YtpicaknklgccoaaDoorX2
namespace Go.Proofs.YtpicaknklgccoaaDoor
open Go.RowKit

theorem Tryd.infoInt : (Tryd.prog.info? 3).map (fun i => (i.zero, i.size, i.bytes)) = some (some (.int .i64 0), 1, 8) := by kernel_rfl
theorem Tryd.undInts : Tryd.prog.underlying 34 = some (.slice 3) := by kernel_rfl
end Go.Proofs.YtpicaknklgccoaaDoor

/- Plain mathematics: what the program's reader comes to. -/
namespace Go.Proofs.YtpicaknklgccoaaDoor

inductive Ins | name | region | e | body
  deriving DecidableEq
def Ins.wt : Ins → Wt
  | .name => .name
  | .region => .region
  | .e => .e
  | .body => .e
def insK (k : Kw) (placed : Bool) : List Ins :=
  match k, placed with
  | .let_, _ => [.name, .e, .body]
  | .loop, _ => [.e, .name, .e, .body]
  | .pair, true => [.region, .e, .e]
  | .new, _ => [.region, .e]
  | .pair, false => [.e, .e]
  | .add, _ => [.e, .e]
  | .sub, _ => [.e, .e]
  | .less, _ => [.e, .e]
  | .fst, _ => [.e]
  | .snd, _ => [.e]
  | .if_, _ => [.e, .e, .e]
theorem insK_wants (k : Kw) (placed : Bool) (h : wantsK k placed ≠ []) : wantsK k placed = (insK k placed).map Ins.wt ++ [.close] := by
  cases k <;> cases placed <;> first | rfl | exact absurd rfl h
/-- at most one name, ahead of a body; at most one region; a body right behind an expression -/
def wfI : List Ins → Bool
  | [] => true
  | .name :: is => !is.contains .name && is.head? != some .body && wfI is
  | .region :: is => !is.contains .region && is.head? != some .body && wfI is
  | .body :: is => !is.contains .name && wfI is
  | .e :: is => wfI is
theorem insK_wf (k : Kw) (placed : Bool) : wfI (insK k placed) = true := by cases k <;> cases placed <;> decide

structure FS where
  parts : List Int
  word : List UInt8
  region : Int

def pIns (len : Nat) (pE : PS → Int × PS) : List Ins → FS → PS → FS × PS
  | [], fs, st => (fs, st)
  | .name :: is, fs, st => pIns len pE is { fs with word := (tk1 len st.l).word } (st.expect len 4)
  | .region :: is, fs, st => pIns len pE is { fs with region := (tk1 len st.l).num } (st.expect len 6)
  | .e :: is, fs, st => pIns len pE is { fs with parts := fs.parts ++ [(pE st).1] } (pE st).2
  | .body :: is, fs, st => pIns len pE is { fs with parts := fs.parts ++ [(pBody pE fs.word (fs.parts.getLastD (-1)) st).1] } (pBody pE fs.word (fs.parts.getLastD (-1)) st).2

def formK (k : Kw) : Nat := formN (kindN (.kw k))
def NR.filled (n : NR) (fs : FS) : NR := { n with word := fs.word, region := fs.region, p0 := fs.parts.getD 0 (-1), p1 := fs.parts.getD 1 (-1), p2 := fs.parts.getD 2 (-1) }
theorem pFill_ins (placed : Bool) (len : Nat) (pE : PS → Int × PS) (k : Kw) (hk : wantsK k placed ≠ []) (at_ beh : Nat) (num : Int) (st : PS) :
    pFill placed len pE ⟨formK k, at_, beh, num, [], 0, -1, -1, -1, -1⟩ st =
      (NR.filled ⟨formK k, at_, beh, num, [], 0, -1, -1, -1, -1⟩ (pIns len pE (insK k placed) ⟨[], [], 0⟩ st).1, (pIns len pE (insK k placed) ⟨[], [], 0⟩ st).2) := by
  cases k <;> cases placed <;> first | rfl | exact absurd rfl hk

def partsL : List PT → Nat → List Int
  | [], _ => []
  | t :: r, base => (((base + t.cnt : Nat) : Int) - 1) :: partsL r (base + t.cnt)
mutual
def opn : PT → Nat → List Int
  | .num _ _, base => [(base : Int)]
  | .name _ _, base => [(base : Int)]
  | .node _ _ _ _ kids, base => ((base + cntL kids : Nat) : Int) :: opnL kids base
def opnL : List PT → Nat → List Int
  | [], _ => []
  | t :: r, base => opn t base ++ opnL r (base + t.cnt)
end

/-- which parts of a form stand under its name -/
def bodsI : List Ins → List Bool
  | [] => []
  | .name :: is => bodsI is
  | .region :: is => bodsI is
  | .e :: is => false :: bodsI is
  | .body :: is => true :: bodsI is
def bodK : Kw → List Bool
  | .let_ => [false, true]
  | .loop => [false, false, true]
  | .pair => [false, false]
  | .new => [false]
  | .add => [false, false]
  | .sub => [false, false]
  | .less => [false, false]
  | .fst => [false]
  | .snd => [false]
  | .if_ => [false, false, false]
theorem bods_eq (k : Kw) (placed : Bool) : bodsI (insK k placed) = bodK k := by cases k <;> cases placed <;> rfl

abbrev Sc := List (List UInt8 × Int)
mutual
/-- the nodes of a tree, the first of which has the index base -/
def NA (scope : Sc) : PT → Nat → List NR → Prop
  | .num p s, _, ns => ns = [⟨1, p, p + s.length, valueL s, [], 0, -1, -1, -1, -1⟩]
  | .name p s, _, ns => ns = [⟨2, p, p + s.length, 0, s, 0, findS scope s, -1, -1, -1⟩]
  | .node p k nm rg kids, base, ns => ∃ ks beh, NAs scope nm kids (bodK k) base ks ∧
      ns = ks ++ [⟨formK k, p, beh, 0, nm, valueL rg, -1, (partsL kids base).getD 0 (-1), (partsL kids base).getD 1 (-1), (partsL kids base).getD 2 (-1)⟩]
def NAs (scope : Sc) (nm : List UInt8) : List PT → List Bool → Nat → List NR → Prop
  | [], bs, _, ns => bs = [] ∧ ns = []
  | _ :: _, [], _, _ => False
  | t :: r, b :: bs, base, ns => ∃ a c, NA (if b then scope ++ [(nm, (base : Int) - 1)] else scope) t base a ∧ NAs scope nm r bs (base + t.cnt) c ∧ ns = a ++ c
end

mutual
theorem NA.len : ∀ {scope : Sc} {t : PT} {base : Nat} {ns : List NR}, NA scope t base ns → ns.length = t.cnt
  | _, .num _ _, _, _, h => by simp only [NA] at h; subst h; rfl
  | _, .name _ _, _, _, h => by simp only [NA] at h; subst h; rfl
  | _, .node _ _ _ _ kids, _, _, h => by
    simp only [NA] at h
    obtain ⟨ks, beh, h1, rfl⟩ := h
    have := NAs.len h1
    simp only [List.length_append, List.length_cons, List.length_nil, PT.cnt, this]; omega
theorem NAs.len : ∀ {scope : Sc} {nm : List UInt8} {ts : List PT} {bs : List Bool} {base : Nat} {ns : List NR}, NAs scope nm ts bs base ns → ns.length = cntL ts
  | _, _, [], _, _, _, h => by simp only [NAs] at h; simp [h.2, cntL]
  | _, _, _ :: _, [], _, _, h => by simp [NAs] at h
  | _, _, t :: r, b :: bs, _, _, h => by
    simp only [NAs] at h
    obtain ⟨a, c, h1, h2, rfl⟩ := h
    have := NA.len h1
    have := NAs.len h2
    simp only [List.length_append, cntL]; omega
end
mutual
theorem opn_len : ∀ (t : PT) (base : Nat), (opn t base).length = t.cnt
  | .num _ _, _ => rfl
  | .name _ _, _ => rfl
  | .node _ _ _ _ kids, base => by have := opnL_len kids base; simp only [opn, List.length_cons, PT.cnt, this]; omega
theorem opnL_len : ∀ (ts : List PT) (base : Nat), (opnL ts base).length = cntL ts
  | [], _ => rfl
  | t :: r, base => by have := opn_len t base; have := opnL_len r (base + t.cnt); simp only [opnL, List.length_append, cntL]; omega
end
theorem cnt_pos' (t : PT) : 0 < t.cnt := by cases t <;> simp [PT.cnt]; omega

/-- of a tree that is there -/
def YesE (placed : Bool) (pE : PS → Int × PS) (m : Nat) : Prop := ∀ (l : List Tk) (e : PT) (r : List Tk), PE placed l e r → l.length ≤ m → ∀ st : PS, st.l = l → st.fl = none →
  ∃ ns, NA st.scope e st.nodes.length ns ∧ pE st = (((st.nodes.length + e.cnt : Nat) : Int) - 1, { st with l := r, nodes := st.nodes ++ ns, opened := st.opened ++ opn e st.nodes.length })
/-- of none -/
def NoE (placed : Bool) (len : Nat) (pE : PS → Int × PS) (m : Nat) : Prop := ∀ l : List Tk, l.length ≤ m → (¬ ∃ e r, PE placed l e r) → ∀ st : PS, st.l = l → st.fl = none →
  ∃ q, (∀ p, formRun placed len l (.e :: p) = some q) ∧ (pE st).2.stuck q

theorem body_yes {placed : Bool} {pE : PS → Int × PS} {m : Nat} (hY : YesE placed pE m) (w : List UInt8) (src : Int) {l : List Tk} {e : PT} {r : List Tk} (h : PE placed l e r) (hm : l.length ≤ m) (st : PS) (hl : st.l = l) (hf : st.fl = none) :
    ∃ ns, NA (st.scope ++ [(w, src)]) e st.nodes.length ns ∧ pBody pE w src st = (((st.nodes.length + e.cnt : Nat) : Int) - 1, { st with l := r, nodes := st.nodes ++ ns, opened := st.opened ++ opn e st.nodes.length }) := by
  obtain ⟨ns, h1, h2⟩ := hY l e r h hm { st with scope := st.scope ++ [(w, src)] } hl hf
  refine ⟨ns, h1, ?_⟩
  unfold pBody
  simp only [h2, List.dropLast_concat]


theorem ins_yes {placed : Bool} (len : Nat) {pE : PS → Int × PS} {m : Nat} (hY : YesE placed pE m) : ∀ (is : List Ins) (l : List Tk) (nm rg : List UInt8) (kids : List PT) (r : List Tk), PW placed (is.map Ins.wt ++ [.close]) l nm rg kids r → wfI is = true →
    l.length ≤ m → ∀ (st : PS) (fs : FS) (nm0 : List UInt8), st.l = l → st.fl = none → (is.head? = some .body → fs.parts.getLastD (-1) = (st.nodes.length : Int) - 1) → (if is.contains .name then nm else fs.word) = nm0 →
    ∃ t ns, t.c = .cls ∧ NAs st.scope nm0 kids (bodsI is) st.nodes.length ns ∧
      pIns len pE is fs st = (⟨fs.parts ++ partsL kids st.nodes.length, nm0, if is.contains .region then valueL rg else fs.region⟩, { st with l := t :: r, nodes := st.nodes ++ ns, opened := st.opened ++ opnL kids st.nodes.length }) := by
  intro is
  induction is with
  | nil =>
    intro l nm rg kids r h _ hm st fs nm0 hl hf _ hw
    simp only [List.map_nil, List.nil_append] at h
    cases h with
    | close hc h1 =>
      cases h1
      refine ⟨_, [], hc, ⟨rfl, rfl⟩, ?_⟩
      simp only [pIns, partsL, opnL, List.append_nil]
      simp at hw
      rw [← hl, ← hw]; rfl
  | cons i is ih =>
    intro l nm rg kids r h hwf hm st fs nm0 hl hf hlast hw
    cases i with
    | name =>
      simp only [List.map_cons, Ins.wt, List.cons_append] at h
      simp only [wfI, Bool.and_eq_true, Bool.not_eq_true'] at hwf
      obtain ⟨⟨hw1, hw2⟩, hw3⟩ := hwf
      cases h with
      | name hc h1 =>
        rename_i t r1 nm1
        simp only [List.length_cons] at hm
        have hk : (tk1 len st.l).kind = 4 := by rw [hl]; exact (kindN_nam _).2 hc
        have hex : st.expect len 4 = { st with l := r1 } := by
          unfold PS.expect; rw [if_neg (by simp [hk])]; simp [PS.tail, hl]
        have hword : (tk1 len st.l).word = t.s := by rw [hl]; simp [tk1, tnOf, wordN, hc]
        have hw' : (if is.contains .name then nm1 else t.s) = nm0 := by
          rw [hw1]; simpa using hw
        obtain ⟨t', ns, h2, h3, h4⟩ := ih r1 nm1 rg kids r h1 hw3 (by omega) { st with l := r1 } { fs with word := t.s } nm0 rfl hf (fun e => by rw [e] at hw2; simp at hw2) hw'
        refine ⟨t', ns, h2, h3, ?_⟩
        simp only [pIns]
        rw [hex, hword, h4]
        simp
    | region =>
      simp only [List.map_cons, Ins.wt, List.cons_append] at h
      simp only [wfI, Bool.and_eq_true, Bool.not_eq_true'] at hwf
      obtain ⟨⟨hw1, hw2⟩, hw3⟩ := hwf
      cases h with
      | region hc h1 =>
        rename_i t r1 rg1
        simp only [List.length_cons] at hm
        have hk : (tk1 len st.l).kind = 6 := by rw [hl]; exact (kindN_reg _).2 hc
        have hex : st.expect len 6 = { st with l := r1 } := by
          unfold PS.expect; rw [if_neg (by simp [hk])]; simp [PS.tail, hl]
        have hnum : (tk1 len st.l).num = valueL t.s := by rw [hl]; simp [tk1, tnOf, numN, hc]
        have hw' : (if is.contains .name then nm else fs.word) = nm0 := by simpa using hw
        obtain ⟨t', ns, h2, h3, h4⟩ := ih r1 nm rg1 kids r h1 hw3 (by omega) { st with l := r1 } { fs with region := valueL t.s } nm0 rfl hf (fun e => by rw [e] at hw2; simp at hw2) hw'
        refine ⟨t', ns, h2, h3, ?_⟩
        simp only [pIns]
        rw [hex, hnum, h4, hw1]
        simp
    | e =>
      simp only [List.map_cons, Ins.wt, List.cons_append] at h
      simp only [wfI] at hwf
      cases h with
      | e he h1 =>
        rename_i e r1 kids1
        have hlt := he.len
        obtain ⟨ns1, hn1, hp1⟩ := hY l e r1 he hm st hl hf
        have hw' : (if is.contains .name then nm else fs.word) = nm0 := by simpa using hw
        have hlen := hn1.len
        obtain ⟨t', ns, h2, h3, h4⟩ := ih r1 nm rg kids1 r h1 hwf (by omega) (pE st).2 { fs with parts := fs.parts ++ [(pE st).1] } nm0 (by rw [hp1]) (by rw [hp1]; exact hf)
          (fun _ => by rw [hp1]; simp [hlen]) hw'
        refine ⟨t', ns1 ++ ns, h2, ?_, ?_⟩
        · rw [hp1] at h3
          simp only [bodsI, NAs]
          simp only [List.length_append, hlen] at h3
          exact ⟨ns1, ns, hn1, h3, rfl⟩
        · simp only [pIns]
          rw [h4, hp1]
          simp [partsL, opnL, hlen]
    | body =>
      simp only [List.map_cons, Ins.wt, List.cons_append] at h
      simp only [wfI, Bool.and_eq_true, Bool.not_eq_true'] at hwf
      cases h with
      | e he h1 =>
        rename_i e r1 kids1
        have hlt := he.len
        have hw0 : fs.word = nm0 := by
          have : (Ins.body :: is).contains .name = false := by simpa using hwf.1
          rw [this] at hw; simpa using hw
        have hla := hlast rfl
        obtain ⟨ns1, hn1, hp1⟩ := body_yes hY fs.word (fs.parts.getLastD (-1)) he hm st hl hf
        have hw' : (if is.contains .name then nm else fs.word) = nm0 := by rw [hwf.1]; simpa using hw0
        have hlen := hn1.len
        obtain ⟨t', ns, h2, h3, h4⟩ := ih r1 nm rg kids1 r h1 hwf.2 (by omega) (pBody pE fs.word (fs.parts.getLastD (-1)) st).2 { fs with parts := fs.parts ++ [(pBody pE fs.word (fs.parts.getLastD (-1)) st).1] } nm0 (by rw [hp1]) (by rw [hp1]; exact hf)
          (fun _ => by rw [hp1]; simp [hlen]) hw'
        refine ⟨t', ns1 ++ ns, h2, ?_, ?_⟩
        · rw [hp1] at h3
          simp only [bodsI, NAs]
          simp only [List.length_append, hlen] at h3
          rw [hw0, hla] at hn1
          exact ⟨ns1, ns, hn1, h3, rfl⟩
        · simp only [pIns]
          rw [h4, hp1]
          simp [partsL, opnL, hlen]

theorem keeps_ins {pE : PS → Int × PS} (h : Keeps pE) (len : Nat) {q : Nat} : ∀ (is : List Ins) (fs : FS) (st : PS), st.stuck q → (pIns len pE is fs st).2.stuck q := by
  intro is
  induction is with
  | nil => intro fs st hs; exact hs
  | cons i is ih =>
    intro fs st hs
    cases i with
    | name => exact ih _ _ (stuck_expect hs)
    | region => exact ih _ _ (stuck_expect hs)
    | e => exact ih _ _ (h q st hs)
    | body => exact ih _ _ (keeps_body h _ _ hs)

theorem expect_no {len k : Nat} {st : PS} (hf : st.fl = none) (hk : (tk1 len st.l).kind ≠ k) : (st.expect len k).stuck (tk1 len st.l).at_ := by
  unfold PS.expect; rw [if_pos hk]
  exact fail_stuck hf

theorem ins_no {placed : Bool} {len : Nat} {pE : PS → Int × PS} {m : Nat} (hY : YesE placed pE m) (hN : NoE placed len pE m) (hK : Keeps pE) : ∀ (is : List Ins) (l : List Tk), (¬ ∃ nm rg kids r, PW placed (is.map Ins.wt ++ [.close]) l nm rg kids r) →
    l.length ≤ m → ∀ (st : PS) (fs : FS), st.l = l → st.fl = none → ∃ q, (∀ p, formRun placed len l (is.map Ins.wt ++ .close :: p) = some q) ∧ ((pIns len pE is fs st).2.expect len 3).stuck q := by
  intro is
  induction is with
  | nil =>
    intro l h hm st fs hl hf
    simp only [List.map_nil, List.nil_append, pIns] at h ⊢
    cases l with
    | nil => exact ⟨len, fun p => rfl, by have := expect_no (len := len) (k := 3) hf (by rw [hl]; simp [tk1]); rw [hl] at this; exact this⟩
    | cons t r =>
      by_cases hc : t.c = .cls
      · exact absurd ⟨_, _, _, _, .close hc .nil⟩ h
      · refine ⟨t.at_, fun p => by simp only [formRun, if_neg hc], ?_⟩
        have := expect_no (len := len) (k := 3) hf (by rw [hl]; exact fun e => hc ((kindN_cls _).1 e))
        rw [hl] at this; exact this
  | cons i is ih =>
    intro l h hm st fs hl hf
    cases i with
    | name =>
      simp only [List.map_cons, Ins.wt, List.cons_append] at h ⊢
      simp only [pIns]
      cases l with
      | nil =>
        refine ⟨len, fun p => rfl, ?_⟩
        have := expect_no (len := len) (k := 4) hf (by rw [hl]; simp [tk1])
        rw [hl] at this
        exact stuck_expect (keeps_ins hK len is _ _ this)
      | cons t r =>
        by_cases hc : t.c = .nam
        · have hk : (tk1 len st.l).kind = 4 := by rw [hl]; exact (kindN_nam _).2 hc
          have hex : st.expect len 4 = { st with l := r } := by
            unfold PS.expect; rw [if_neg (by simp [hk])]; simp [PS.tail, hl]
          rw [hex]
          obtain ⟨q, h1, h2⟩ := ih r (fun ⟨nm, rg, kids, r', hp⟩ => h ⟨_, _, _, _, .name hc hp⟩) (by simp at hm; omega) { st with l := r } { fs with word := (tk1 len st.l).word } rfl hf
          exact ⟨q, fun p => by simp only [formRun, if_pos hc]; exact h1 p, h2⟩
        · refine ⟨t.at_, fun p => by simp only [formRun, if_neg hc], ?_⟩
          have := expect_no (len := len) (k := 4) hf (by rw [hl]; exact fun e => hc ((kindN_nam _).1 e))
          rw [hl] at this
          exact stuck_expect (keeps_ins hK len is _ _ this)
    | region =>
      simp only [List.map_cons, Ins.wt, List.cons_append] at h ⊢
      simp only [pIns]
      cases l with
      | nil =>
        refine ⟨len, fun p => rfl, ?_⟩
        have := expect_no (len := len) (k := 6) hf (by rw [hl]; simp [tk1])
        rw [hl] at this
        exact stuck_expect (keeps_ins hK len is _ _ this)
      | cons t r =>
        by_cases hc : t.c = .reg
        · have hk : (tk1 len st.l).kind = 6 := by rw [hl]; exact (kindN_reg _).2 hc
          have hex : st.expect len 6 = { st with l := r } := by
            unfold PS.expect; rw [if_neg (by simp [hk])]; simp [PS.tail, hl]
          rw [hex]
          obtain ⟨q, h1, h2⟩ := ih r (fun ⟨nm, rg, kids, r', hp⟩ => h ⟨_, _, _, _, .region hc hp⟩) (by simp at hm; omega) { st with l := r } { fs with region := (tk1 len st.l).num } rfl hf
          exact ⟨q, fun p => by simp only [formRun, if_pos hc]; exact h1 p, h2⟩
        · refine ⟨t.at_, fun p => by simp only [formRun, if_neg hc], ?_⟩
          have := expect_no (len := len) (k := 6) hf (by rw [hl]; exact fun e => hc ((kindN_reg _).1 e))
          rw [hl] at this
          exact stuck_expect (keeps_ins hK len is _ _ this)
    | e =>
      simp only [List.map_cons, Ins.wt, List.cons_append] at h ⊢
      simp only [pIns]
      by_cases he : ∃ e r, PE placed l e r
      · obtain ⟨e, r, he⟩ := he
        obtain ⟨ns1, hn1, hp1⟩ := hY l e r he hm st hl hf
        have hlt := he.len
        obtain ⟨q, h1, h2⟩ := ih r (fun ⟨nm, rg, kids, r', hp⟩ => h ⟨_, _, _, _, .e he hp⟩) (by omega) (pE st).2 { fs with parts := fs.parts ++ [(pE st).1] } (by rw [hp1]) (by rw [hp1]; exact hf)
        exact ⟨q, fun p => by rw [he.sound]; exact h1 p, h2⟩
      · obtain ⟨q, h1, h2⟩ := hN l hm he st hl hf
        exact ⟨q, fun p => h1 _, stuck_expect (keeps_ins hK len is _ _ h2)⟩
    | body =>
      simp only [List.map_cons, Ins.wt, List.cons_append] at h ⊢
      simp only [pIns]
      by_cases he : ∃ e r, PE placed l e r
      · obtain ⟨e, r, he⟩ := he
        obtain ⟨ns1, hn1, hp1⟩ := body_yes hY fs.word (fs.parts.getLastD (-1)) he hm st hl hf
        have hlt := he.len
        obtain ⟨q, h1, h2⟩ := ih r (fun ⟨nm, rg, kids, r', hp⟩ => h ⟨_, _, _, _, .e he hp⟩) (by omega) (pBody pE fs.word (fs.parts.getLastD (-1)) st).2 { fs with parts := fs.parts ++ [(pBody pE fs.word (fs.parts.getLastD (-1)) st).1] } (by rw [hp1]) (by rw [hp1]; exact hf)
        exact ⟨q, fun p => by rw [he.sound]; exact h1 p, h2⟩
      · obtain ⟨q, h1, h2⟩ := hN l hm he { st with scope := st.scope ++ [(fs.word, fs.parts.getLastD (-1))] } hl hf
        exact ⟨q, fun p => h1 _, stuck_expect (keeps_ins hK len is _ _ h2)⟩
end Go.Proofs.YtpicaknklgccoaaDoor

/- Plain mathematics: the program's reader, whole. -/
namespace Go.Proofs.YtpicaknklgccoaaDoor

theorem any_num (len : Nat) (pB : NR → PS → Int × PS) (st : PS) {t : Tk} {r : List Tk} (hl : st.l = t :: r) (hc : t.c = .num) :
    pAny len pB st = ((st.nodes.length : Int), { st with l := r, nodes := st.nodes ++ [⟨1, t.at_, t.at_ + t.s.length, valueL t.s, [], 0, -1, -1, -1, -1⟩] }) := by
  simp [pAny, hl, tk1, tnOf, hc, kindN, numN, PS.tail, PS.add, nodeT]
theorem any_name (len : Nat) (pB : NR → PS → Int × PS) (st : PS) {t : Tk} {r : List Tk} (hl : st.l = t :: r) (hc : t.c = .nam) :
    pAny len pB st = ((st.nodes.length : Int), { st with l := r, nodes := st.nodes ++ [⟨2, t.at_, t.at_ + t.s.length, 0, t.s, 0, findS st.scope t.s, -1, -1, -1⟩] }) := by
  simp [pAny, hl, tk1, tnOf, hc, kindN, wordN, PS.tail, PS.add, nodeT]
theorem any_open (len : Nat) (pB : NR → PS → Int × PS) (st : PS) {t : Tk} {r : List Tk} (hl : st.l = t :: r) (hc : t.c = .opn) :
    pAny len pB st = pB ⟨0, t.at_, t.at_ + t.s.length, 0, [], 0, -1, -1, -1, -1⟩ { st with l := r } := by
  simp [pAny, hl, tk1, tnOf, hc, kindN, PS.tail, nodeT]
theorem any_bad (len : Nat) (pB : NR → PS → Int × PS) (st : PS) {t : Tk} {r : List Tk} (hl : st.l = t :: r) (h1 : t.c ≠ .num) (h2 : t.c ≠ .nam) (h3 : t.c ≠ .opn) (hf : st.fl = none) : (pAny len pB st).2.stuck t.at_ := by
  have e1 : ¬ kindN t.c = 5 := fun h => h1 ((kindN_num _).1 h)
  have e2 : ¬ kindN t.c = 4 := fun h => h2 ((kindN_nam _).1 h)
  have e3 : ¬ kindN t.c = 2 := fun h => h3 ((kindN_opn _).1 h)
  unfold pAny
  simp only [hl, tk1, tnOf, if_neg e1, if_neg e2, if_neg e3]
  exact fail_stuck hf
theorem any_end (len : Nat) (pB : NR → PS → Int × PS) (st : PS) (hl : st.l = []) (hf : st.fl = none) : (pAny len pB st).2.stuck len := by
  unfold pAny
  simp only [hl, tk1]
  exact fail_stuck hf

theorem set_seat (o X : List Int) (i : Int) : (o ++ [-1] ++ X).set o.length i = o ++ i :: X := by
  rw [List.append_assoc, List.set_append_right _ _ (Nat.le_refl _)]; simp

theorem form_wants (c : Cl) (placed : Bool) : (formN (kindN c) = 0 ∨ (formN (kindN c) = 12 ∧ placed = false)) ↔ wantsC c placed = [] := by
  cases c with
  | kw k => cases k <;> cases placed <;> decide
  | _ => cases placed <;> decide

theorem insK_head (k : Kw) (placed : Bool) : (insK k placed).head? ≠ some .body := by cases k <;> cases placed <;> decide
theorem PW.noname {placed : Bool} : ∀ {ws : List Wt} {l : List Tk} {nm rg : List UInt8} {kids : List PT} {r : List Tk}, PW placed ws l nm rg kids r → Wt.name ∉ ws → nm = []
  | _, _, _, _, _, _, .nil, _ => rfl
  | _, _, _, _, _, _, .close _ h1, hn => PW.noname h1 (fun h => hn (List.mem_cons_of_mem _ h))
  | _, _, _, _, _, _, .name _ _, hn => absurd List.mem_cons_self hn
  | _, _, _, _, _, _, .region _ h1, hn => PW.noname h1 (fun h => hn (List.mem_cons_of_mem _ h))
  | _, _, _, _, _, _, .e _ h1, hn => PW.noname h1 (fun h => hn (List.mem_cons_of_mem _ h))
theorem PW.noregion {placed : Bool} : ∀ {ws : List Wt} {l : List Tk} {nm rg : List UInt8} {kids : List PT} {r : List Tk}, PW placed ws l nm rg kids r → Wt.region ∉ ws → rg = []
  | _, _, _, _, _, _, .nil, _ => rfl
  | _, _, _, _, _, _, .close _ h1, hn => PW.noregion h1 (fun h => hn (List.mem_cons_of_mem _ h))
  | _, _, _, _, _, _, .region _ _, hn => absurd List.mem_cons_self hn
  | _, _, _, _, _, _, .name _ h1, hn => PW.noregion h1 (fun h => hn (List.mem_cons_of_mem _ h))
  | _, _, _, _, _, _, .e _ h1, hn => PW.noregion h1 (fun h => hn (List.mem_cons_of_mem _ h))

theorem expr_all (placed : Bool) (len : Nat) : ∀ n : Nat, YesE placed (pExpr placed len n) n ∧ NoE placed len (pExpr placed len n) n := by
  intro n
  induction n with
  | zero =>
    constructor
    · intro l e r h hm
      obtain ⟨t, r', he, _⟩ := h.suffix
      rw [he] at hm; simp at hm
    · intro l hm _ st hl hf
      have hl0 : l = [] := List.length_eq_zero_iff.1 (by omega)
      subst hl0
      refine ⟨len, fun p => rfl, ?_⟩
      unfold pExpr pSeat
      exact any_end len _ { st with opened := st.opened ++ [-1] } hl hf
  | succ m ih =>
    constructor
    · intro l e r h hm st hl hf
      cases h with
      | num hc =>
        rename_i t
        refine ⟨_, rfl, ?_⟩
        unfold pExpr pSeat
        rw [any_num len _ { st with opened := st.opened ++ [-1] } hl hc]
        have := set_seat st.opened [] (st.nodes.length : Int)
        simp only [List.append_nil] at this
        simp only [this, opn, PT.cnt]
        congr 1
        omega
      | name hc =>
        rename_i t
        refine ⟨_, rfl, ?_⟩
        unfold pExpr pSeat
        rw [any_name len _ { st with opened := st.opened ++ [-1] } hl hc]
        have := set_seat st.opened [] (st.nodes.length : Int)
        simp only [List.append_nil] at this
        simp only [this, opn, PT.cnt]
        congr 1
        omega
      | node hc hk hw h4 =>
        rename_i t u k r0 nm rg kids
        have hkf : ¬ (formN (kindN u.c) = 0 ∨ (formN (kindN u.c) = 12 ∧ placed = false)) := by
          rw [form_wants, hk]; exact hw
        rw [insK_wants k placed hw] at h4
        simp only [List.length_cons] at hm
        obtain ⟨c, ns, h1, h2, h3⟩ := ins_yes len ih.1 (insK k placed) r0 nm rg kids r h4 (insK_wf k placed) (by omega)
          { st with opened := st.opened ++ [-1], l := r0 } ⟨[], [], 0⟩ nm rfl hf (fun e => absurd e (insK_head k placed)) (by
            split
            · rfl
            · rename_i hn
              have : Wt.name ∉ (insK k placed).map Ins.wt ++ [.close] := by
                intro hh
                rcases List.mem_append.1 hh with hh | hh
                · obtain ⟨i, hi, e⟩ := List.mem_map.1 hh
                  cases i with
                  | name => exact hn (by simpa using hi)
                  | _ => cases e
                · simp at hh
              exact (PW.noname h4 this).symm)
        rw [bods_eq] at h2
        have hlen := h2.len
        have hrg : (if (insK k placed).contains .region then valueL rg else 0) = valueL rg := by
          split
          · rfl
          · rename_i hn
            have : Wt.region ∉ (insK k placed).map Ins.wt ++ [.close] := by
              intro hh
              rcases List.mem_append.1 hh with hh | hh
              · obtain ⟨i, hi, e⟩ := List.mem_map.1 hh
                cases i with
                | region => exact hn (by simpa using hi)
                | _ => cases e
              · simp at hh
            rw [PW.noregion h4 this]; rfl
        rw [hrg] at h3
        refine ⟨ns ++ [⟨formK k, t.at_, c.at_ + c.s.length, 0, nm, valueL rg, -1, (partsL kids st.nodes.length).getD 0 (-1), (partsL kids st.nodes.length).getD 1 (-1), (partsL kids st.nodes.length).getD 2 (-1)⟩], ⟨ns, _, h2, rfl⟩, ?_⟩
        unfold pExpr pSeat
        rw [any_open len _ { st with opened := st.opened ++ [-1] } hl hc]
        unfold pBracket
        have htk : tk1 len (u :: r0) = tnOf u := rfl
        simp only [htk]
        rw [if_neg (by simpa [tnOf] using hkf)]
        have hform : formN (tnOf u).kind = formK k := by simp [tnOf, hk, formK]
        rw [hform, pFill_ins placed len _ k hw]
        simp only [PS.tail, List.tail_cons]
        rw [h3]
        have hkc : (tk1 len (c :: r)).kind = 3 := (kindN_cls _).2 h1
        simp only [PS.expect, hkc]
        rw [if_neg (by simp)]
        simp only [PS.tail, List.tail_cons, PS.add, NR.filled, List.nil_append, tk1, tnOf, opn, PT.cnt]
        have := set_seat st.opened (opnL kids st.nodes.length) ((st.nodes ++ ns).length : Int)
        rw [this]
        simp only [List.length_append, hlen, List.append_assoc]
        congr 1
        omega
    · intro l hm hn st hl hf
      cases l with
      | nil =>
        refine ⟨len, fun p => rfl, ?_⟩
        unfold pExpr pSeat
        exact any_end len _ { st with opened := st.opened ++ [-1] } hl hf
      | cons t r =>
        by_cases h1 : t.c = .num
        · exact absurd ⟨_, _, .num h1⟩ hn
        by_cases h2 : t.c = .nam
        · exact absurd ⟨_, _, .name h2⟩ hn
        by_cases h3 : t.c = .opn
        · simp only [List.length_cons] at hm
          unfold pExpr pSeat
          rw [any_open len _ { st with opened := st.opened ++ [-1] } hl h3]
          unfold pBracket
          cases r with
          | nil =>
            refine ⟨len, fun p => by simp [formRun, h3], ?_⟩
            simp only [tk1, formN]
            exact fail_stuck hf
          | cons u r0 =>
            have htk : tk1 len (u :: r0) = tnOf u := rfl
            simp only [htk]
            by_cases hw : wantsC u.c placed = []
            · have := (form_wants u.c placed).2 hw
              refine ⟨u.at_, fun p => by simp [formRun, h3, hw], ?_⟩
              rw [if_pos (by simpa [tnOf] using this)]
              exact fail_stuck hf
            · have hkf : ¬ (formN (kindN u.c) = 0 ∨ (formN (kindN u.c) = 12 ∧ placed = false)) := fun h => hw ((form_wants u.c placed).1 h)
              rw [if_neg (by simpa [tnOf] using hkf)]
              cases hu : u.c with
              | kw k =>
                rw [hu] at hw
                have hw' : wantsK k placed ≠ [] := hw
                have hform : formN (tnOf u).kind = formK k := by simp [tnOf, hu, formK]
                rw [hform, pFill_ins placed len _ k hw']
                simp only [PS.tail, List.tail_cons]
                simp only [List.length_cons] at hm
                obtain ⟨q, hq1, hq2⟩ := ins_no (len := len) ih.1 ih.2 (keeps_expr placed len m) (insK k placed) r0 (fun ⟨nm, rg, kids, r', hp⟩ => hn ⟨_, _, .node h3 hu hw' (by rw [insK_wants k placed hw']; exact hp)⟩) (by omega)
                  { st with opened := st.opened ++ [-1], l := r0 } ⟨[], [], 0⟩ rfl hf
                refine ⟨q, fun p => ?_, hq2⟩
                have := hq1 p
                simp only [formRun, h3, hu, wantsC]
                rw [if_neg hw', insK_wants k placed hw']
                simpa using this
              | _ => rw [hu] at hw; exact absurd rfl hw
        · refine ⟨t.at_, fun p => ?_, ?_⟩
          · simp only [formRun]
          · unfold pExpr pSeat
            exact any_bad len _ { st with opened := st.opened ++ [-1] } hl h1 h2 h3 hf

def ps0 (l : List Tk) : PS := ⟨l, none, [], [], []⟩
/-- the reader at its end -/
def pProg (placed : Bool) (len : Nat) (l : List Tk) : PS := (pExpr placed len l.length (ps0 l)).2.expect len 0

theorem prog_yes {placed : Bool} {len : Nat} {l : List Tk} {e : PT} (h : PE placed l e []) :
    ∃ ns, NA [] e 0 ns ∧ pProg placed len l = ⟨[], none, [], ns, opn e 0⟩ := by
  obtain ⟨ns, h1, h2⟩ := (expr_all placed len l.length).1 l e [] h (Nat.le_refl _) (ps0 l) rfl rfl
  refine ⟨ns, h1, ?_⟩
  unfold pProg
  rw [h2]
  simp [PS.expect, tk1, PS.tail, ps0]
theorem prog_no {placed : Bool} {len : Nat} {l : List Tk} {q : Nat} (h : formRun placed len l [.e] = some q) : (pProg placed len l).fl = some q := by
  unfold pProg
  by_cases hp : ∃ e r, PE placed l e r
  · obtain ⟨e, r, hp⟩ := hp
    rw [hp.sound] at h
    obtain ⟨ns, h1, h2⟩ := (expr_all placed len l.length).1 l e r hp (Nat.le_refl _) (ps0 l) rfl rfl
    cases r with
    | nil => simp [formRun] at h
    | cons t r =>
      simp only [formRun, Option.some.injEq] at h
      have := expect_no (len := len) (k := 0) (st := (pExpr placed len l.length (ps0 l)).2) (by rw [h2]; rfl) (by rw [h2]; exact kindN_pos _)
      rw [h2] at this
      rw [h2, this.1]
      simp [tk1, tnOf, h]
  · obtain ⟨q', h1, h2⟩ := (expr_all placed len l.length).2 l (Nat.le_refl _) hp (ps0 l) rfl rfl
    rw [h1 []] at h
    simp only [Option.some.injEq] at h
    subst h
    exact (stuck_expect h2).1
end Go.Proofs.YtpicaknklgccoaaDoor
