import Derived.Test.YtpicaknklgccoaaGreatDoorP9
namespace Go.Proofs.YtpicaknklgccoaaGreatDoor
open Go.RowKit
theorem Tryz.infoInt : (Tryz.prog.info? 3).map (fun i => (i.zero, i.size, i.bytes)) = some (some (.int .i64 0), 1, 8) := by kernel_rfl
theorem Tryz.undInts : Tryz.prog.underlying 42 = some (.slice 3) := by kernel_rfl
inductive Ins | name | region | e | body
 deriving DecidableEq
def Ins.wt : Ins → Wt
 | .name => .name
 | .region => .region
 | .e => .e
 | .body => .e
def insK (k : Kw) (placed : Bool) : List Ins :=
 match k, placed with
 | .let_, _ => [.name, .e, .body]
 | .loop, _ => [.e, .name, .e, .body]
 | .pair, true => [.region, .e, .e]
 | .new, _ => [.region, .e]
 | .pair, false => [.e, .e]
 | .add, _ => [.e, .e]
 | .sub, _ => [.e, .e]
 | .less, _ => [.e, .e]
 | .fst, _ => [.e]
 | .snd, _ => [.e]
 | .if_, _ => [.e, .e, .e]
theorem insK_wants (k : Kw) (placed : Bool) (h : wantsK k placed ≠ []) : wantsK k placed = (insK k placed).map Ins.wt ++ [.close] := by
 cases k <;> cases placed <;> first | rfl | exact absurd rfl h
def wfI : List Ins → Bool
 | [] => true
 | .name :: is => !is.contains .name && is.head? != some .body && wfI is
 | .region :: is => !is.contains .region && is.head? != some .body && wfI is
 | .body :: is => !is.contains .name && wfI is
 | .e :: is => wfI is
theorem insK_wf (k : Kw) (placed : Bool) : wfI (insK k placed) = true := by cases k <;> cases placed <;> decide
structure FS where
 parts : List Int
 word : List UInt8
 region : Int
def pIns (len : Nat) (pE : PS → Int × PS) : List Ins → FS → PS → FS × PS
 | [], fs, st => (fs, st)
 | .name :: is, fs, st => pIns len pE is { fs with word := (tk1 len st.l).word } (st.expect len 4)
 | .region :: is, fs, st => pIns len pE is { fs with region := (tk1 len st.l).num } (st.expect len 6)
 | .e :: is, fs, st => pIns len pE is { fs with parts := fs.parts ++ [(pE st).1] } (pE st).2
 | .body :: is, fs, st => pIns len pE is { fs with parts := fs.parts ++ [(pBody pE fs.word (fs.parts.getLastD (-1)) st).1] } (pBody pE fs.word (fs.parts.getLastD (-1)) st).2
def formK (k : Kw) : Nat := formN (kindN (.kw k))
def NR.filled (n : NR) (fs : FS) : NR := { n with word := fs.word, region := fs.region, p0 := fs.parts.getD 0 (-1), p1 := fs.parts.getD 1 (-1), p2 := fs.parts.getD 2 (-1) }
theorem pFill_ins (placed : Bool) (len : Nat) (pE : PS → Int × PS) (k : Kw) (hk : wantsK k placed ≠ []) (at_ beh : Nat) (num : Int) (st : PS) :
  pFill placed len pE ⟨formK k, at_, beh, num, [], 0, -1, -1, -1, -1⟩ st =
   (NR.filled ⟨formK k, at_, beh, num, [], 0, -1, -1, -1, -1⟩ (pIns len pE (insK k placed) ⟨[], [], 0⟩ st).1, (pIns len pE (insK k placed) ⟨[], [], 0⟩ st).2) := by
 cases k <;> cases placed <;> first | rfl | exact absurd rfl hk
def partsL : List PT → Nat → List Int
 | [], _ => []
 | t :: r, base => (((base + t.cnt : Nat) : Int) - 1) :: partsL r (base + t.cnt)
mutual
def opn : PT → Nat → List Int
 | .num _ _, base => [(base : Int)]
 | .name _ _, base => [(base : Int)]
 | .node _ _ _ _ kids, base => ((base + cntL kids : Nat) : Int) :: opnL kids base
def opnL : List PT → Nat → List Int
 | [], _ => []
 | t :: r, base => opn t base ++ opnL r (base + t.cnt)
end
def bodsI : List Ins → List Bool
 | [] => []
 | .name :: is => bodsI is
 | .region :: is => bodsI is
 | .e :: is => false :: bodsI is
 | .body :: is => true :: bodsI is
def bodK : Kw → List Bool
 | .let_ => [false, true]
 | .loop => [false, false, true]
 | .pair => [false, false]
 | .new => [false]
 | .add => [false, false]
 | .sub => [false, false]
 | .less => [false, false]
 | .fst => [false]
 | .snd => [false]
 | .if_ => [false, false, false]
theorem bods_eq (k : Kw) (placed : Bool) : bodsI (insK k placed) = bodK k := by cases k <;> cases placed <;> rfl
abbrev Sc := List (List UInt8 × Int)
mutual
def NA (scope : Sc) : PT → Nat → List NR → Prop
 | .num p s, _, ns => ns = [⟨1, p, p + s.length, valueL s, [], 0, -1, -1, -1, -1⟩]
 | .name p s, _, ns => ns = [⟨2, p, p + s.length, 0, s, 0, findS scope s, -1, -1, -1⟩]
 | .node p k nm rg kids, base, ns => ∃ ks beh, NAs scope nm kids (bodK k) base ks ∧
   ns = ks ++ [⟨formK k, p, beh, 0, nm, valueL rg, -1, (partsL kids base).getD 0 (-1), (partsL kids base).getD 1 (-1), (partsL kids base).getD 2 (-1)⟩]
def NAs (scope : Sc) (nm : List UInt8) : List PT → List Bool → Nat → List NR → Prop
 | [], bs, _, ns => bs = [] ∧ ns = []
 | _ :: _, [], _, _ => False
 | t :: r, b :: bs, base, ns => ∃ a c, NA (if b then scope ++ [(nm, (base : Int) - 1)] else scope) t base a ∧ NAs scope nm r bs (base + t.cnt) c ∧ ns = a ++ c
end
mutual
theorem NA.len : ∀ {scope : Sc} {t : PT} {base : Nat} {ns : List NR}, NA scope t base ns → ns.length = t.cnt
 | _, .num _ _, _, _, h => by simp only [NA] at h; subst h; rfl
 | _, .name _ _, _, _, h => by simp only [NA] at h; subst h; rfl
 | _, .node _ _ _ _ kids, _, _, h => by
  simp only [NA] at h
  obtain ⟨ks, beh, h1, rfl⟩ := h
  have := NAs.len h1
  simp only [List.length_append, List.length_cons, List.length_nil, PT.cnt, this]; omega
theorem NAs.len : ∀ {scope : Sc} {nm : List UInt8} {ts : List PT} {bs : List Bool} {base : Nat} {ns : List NR}, NAs scope nm ts bs base ns → ns.length = cntL ts
 | _, _, [], _, _, _, h => by simp only [NAs] at h; simp [h.2, cntL]
 | _, _, _ :: _, [], _, _, h => by simp [NAs] at h
 | _, _, t :: r, b :: bs, _, _, h => by
  simp only [NAs] at h
  obtain ⟨a, c, h1, h2, rfl⟩ := h
  have := NA.len h1
  have := NAs.len h2
  simp only [List.length_append, cntL]; omega
end
mutual
theorem opn_len : ∀ (t : PT) (base : Nat), (opn t base).length = t.cnt
 | .num _ _, _ => rfl
 | .name _ _, _ => rfl
 | .node _ _ _ _ kids, base => by have := opnL_len kids base; simp only [opn, List.length_cons, PT.cnt, this]; omega
theorem opnL_len : ∀ (ts : List PT) (base : Nat), (opnL ts base).length = cntL ts
 | [], _ => rfl
 | t :: r, base => by have := opn_len t base; have := opnL_len r (base + t.cnt); simp only [opnL, List.length_append, cntL]; omega
end
theorem cnt_pos' (t : PT) : 0 < t.cnt := by cases t <;> simp [PT.cnt]; omega
def YesE (placed : Bool) (pE : PS → Int × PS) (m : Nat) : Prop := ∀ (l : List Tk) (e : PT) (r : List Tk), PE placed l e r → l.length ≤ m → ∀ st : PS, st.l = l → st.fl = none →
 ∃ ns, NA st.scope e st.nodes.length ns ∧ pE st = (((st.nodes.length + e.cnt : Nat) : Int) - 1, { st with l := r, nodes := st.nodes ++ ns, opened := st.opened ++ opn e st.nodes.length })
def NoE (placed : Bool) (len : Nat) (pE : PS → Int × PS) (m : Nat) : Prop := ∀ l : List Tk, l.length ≤ m → (¬ ∃ e r, PE placed l e r) → ∀ st : PS, st.l = l → st.fl = none →
 ∃ q, (∀ p, formRun placed len l (.e :: p) = some q) ∧ (pE st).2.stuck q
theorem body_yes {placed : Bool} {pE : PS → Int × PS} {m : Nat} (hY : YesE placed pE m) (w : List UInt8) (src : Int) {l : List Tk} {e : PT} {r : List Tk} (h : PE placed l e r) (hm : l.length ≤ m) (st : PS) (hl : st.l = l) (hf : st.fl = none) :
  ∃ ns, NA (st.scope ++ [(w, src)]) e st.nodes.length ns ∧ pBody pE w src st = (((st.nodes.length + e.cnt : Nat) : Int) - 1, { st with l := r, nodes := st.nodes ++ ns, opened := st.opened ++ opn e st.nodes.length }) := by
 obtain ⟨ns, h1, h2⟩ := hY l e r h hm { st with scope := st.scope ++ [(w, src)] } hl hf
 refine ⟨ns, h1, ?_⟩
 unfold pBody
 simp only [h2, List.dropLast_concat]
theorem ins_yes {placed : Bool} (len : Nat) {pE : PS → Int × PS} {m : Nat} (hY : YesE placed pE m) : ∀ (is : List Ins) (l : List Tk) (nm rg : List UInt8) (kids : List PT) (r : List Tk), PW placed (is.map Ins.wt ++ [.close]) l nm rg kids r → wfI is = true →
  l.length ≤ m → ∀ (st : PS) (fs : FS) (nm0 : List UInt8), st.l = l → st.fl = none → (is.head? = some .body → fs.parts.getLastD (-1) = (st.nodes.length : Int) - 1) → (if is.contains .name then nm else fs.word) = nm0 →
  ∃ t ns, t.c = .cls ∧ NAs st.scope nm0 kids (bodsI is) st.nodes.length ns ∧
   pIns len pE is fs st = (⟨fs.parts ++ partsL kids st.nodes.length, nm0, if is.contains .region then valueL rg else fs.region⟩, { st with l := t :: r, nodes := st.nodes ++ ns, opened := st.opened ++ opnL kids st.nodes.length }) := by
 intro is
 induction is with
 | nil =>
  intro l nm rg kids r h _ hm st fs nm0 hl hf _ hw
  simp only [List.map_nil, List.nil_append] at h
  cases h with
  | close hc h1 =>
   cases h1
   refine ⟨_, [], hc, ⟨rfl, rfl⟩, ?_⟩
   simp only [pIns, partsL, opnL, List.append_nil]
   simp at hw
   rw [← hl, ← hw]; rfl
 | cons i is ih =>
  intro l nm rg kids r h hwf hm st fs nm0 hl hf hlast hw
  cases i with
  | name =>
   simp only [List.map_cons, Ins.wt, List.cons_append] at h
   simp only [wfI, Bool.and_eq_true, Bool.not_eq_true'] at hwf
   obtain ⟨⟨hw1, hw2⟩, hw3⟩ := hwf
   cases h with
   | name hc h1 =>
    rename_i t r1 nm1
    simp only [List.length_cons] at hm
    have hk : (tk1 len st.l).kind = 4 := by rw [hl]; exact (kindN_nam _).2 hc
    have hex : st.expect len 4 = { st with l := r1 } := by
     unfold PS.expect; rw [if_neg (by simp [hk])]; simp [PS.tail, hl]
    have hword : (tk1 len st.l).word = t.s := by rw [hl]; simp [tk1, tnOf, wordN, hc]
    have hw' : (if is.contains .name then nm1 else t.s) = nm0 := by
     rw [hw1]; simpa using hw
    obtain ⟨t', ns, h2, h3, h4⟩ := ih r1 nm1 rg kids r h1 hw3 (by omega) { st with l := r1 } { fs with word := t.s } nm0 rfl hf (fun e => by rw [e] at hw2; simp at hw2) hw'
    refine ⟨t', ns, h2, h3, ?_⟩
    simp only [pIns]
    rw [hex, hword, h4]
    simp
  | region =>
   simp only [List.map_cons, Ins.wt, List.cons_append] at h
   simp only [wfI, Bool.and_eq_true, Bool.not_eq_true'] at hwf
   obtain ⟨⟨hw1, hw2⟩, hw3⟩ := hwf
   cases h with
   | region hc h1 =>
    rename_i t r1 rg1
    simp only [List.length_cons] at hm
    have hk : (tk1 len st.l).kind = 6 := by rw [hl]; exact (kindN_reg _).2 hc
    have hex : st.expect len 6 = { st with l := r1 } := by
     unfold PS.expect; rw [if_neg (by simp [hk])]; simp [PS.tail, hl]
    have hnum : (tk1 len st.l).num = valueL t.s := by rw [hl]; simp [tk1, tnOf, numN, hc]
    have hw' : (if is.contains .name then nm else fs.word) = nm0 := by simpa using hw
    obtain ⟨t', ns, h2, h3, h4⟩ := ih r1 nm rg1 kids r h1 hw3 (by omega) { st with l := r1 } { fs with region := valueL t.s } nm0 rfl hf (fun e => by rw [e] at hw2; simp at hw2) hw'
    refine ⟨t', ns, h2, h3, ?_⟩
    simp only [pIns]
    rw [hex, hnum, h4, hw1]
    simp
  | e =>
   simp only [List.map_cons, Ins.wt, List.cons_append] at h
   simp only [wfI] at hwf
   cases h with
   | e he h1 =>
    rename_i e r1 kids1
    have hlt := he.len
    obtain ⟨ns1, hn1, hp1⟩ := hY l e r1 he hm st hl hf
    have hw' : (if is.contains .name then nm else fs.word) = nm0 := by simpa using hw
    have hlen := hn1.len
    obtain ⟨t', ns, h2, h3, h4⟩ := ih r1 nm rg kids1 r h1 hwf (by omega) (pE st).2 { fs with parts := fs.parts ++ [(pE st).1] } nm0 (by rw [hp1]) (by rw [hp1]; exact hf)
     (fun _ => by rw [hp1]; simp [hlen]) hw'
    refine ⟨t', ns1 ++ ns, h2, ?_, ?_⟩
    ·rw [hp1] at h3
     simp only [bodsI, NAs]
     simp only [List.length_append, hlen] at h3
     exact ⟨ns1, ns, hn1, h3, rfl⟩
    ·simp only [pIns]
     rw [h4, hp1]
     simp [partsL, opnL, hlen]
  | body =>
   simp only [List.map_cons, Ins.wt, List.cons_append] at h
   simp only [wfI, Bool.and_eq_true, Bool.not_eq_true'] at hwf
   cases h with
   | e he h1 =>
    rename_i e r1 kids1
    have hlt := he.len
    have hw0 : fs.word = nm0 := by
     have : (Ins.body :: is).contains .name = false := by simpa using hwf.1
     rw [this] at hw; simpa using hw
    have hla := hlast rfl
    obtain ⟨ns1, hn1, hp1⟩ := body_yes hY fs.word (fs.parts.getLastD (-1)) he hm st hl hf
    have hw' : (if is.contains .name then nm else fs.word) = nm0 := by rw [hwf.1]; simpa using hw0
    have hlen := hn1.len
    obtain ⟨t', ns, h2, h3, h4⟩ := ih r1 nm rg kids1 r h1 hwf.2 (by omega) (pBody pE fs.word (fs.parts.getLastD (-1)) st).2 { fs with parts := fs.parts ++ [(pBody pE fs.word (fs.parts.getLastD (-1)) st).1] } nm0 (by rw [hp1]) (by rw [hp1]; exact hf)
     (fun _ => by rw [hp1]; simp [hlen]) hw'
    refine ⟨t', ns1 ++ ns, h2, ?_, ?_⟩
    ·rw [hp1] at h3
     simp only [bodsI, NAs]
     simp only [List.length_append, hlen] at h3
     rw [hw0, hla] at hn1
     exact ⟨ns1, ns, hn1, h3, rfl⟩
    ·simp only [pIns]
     rw [h4, hp1]
     simp [partsL, opnL, hlen]
theorem keeps_ins {pE : PS → Int × PS} (h : Keeps pE) (len : Nat) {q : Nat} : ∀ (is : List Ins) (fs : FS) (st : PS), st.stuck q → (pIns len pE is fs st).2.stuck q := by
 intro is
 induction is with
 | nil => intro fs st hs; exact hs
 | cons i is ih =>
  intro fs st hs
  cases i with
  | name => exact ih _ _ (stuck_expect hs)
  | region => exact ih _ _ (stuck_expect hs)
  | e => exact ih _ _ (h q st hs)
  | body => exact ih _ _ (keeps_body h _ _ hs)
theorem expect_no {len k : Nat} {st : PS} (hf : st.fl = none) (hk : (tk1 len st.l).kind ≠ k) : (st.expect len k).stuck (tk1 len st.l).at_ := by
 unfold PS.expect; rw [if_pos hk]
 exact fail_stuck hf
theorem ins_no {placed : Bool} {len : Nat} {pE : PS → Int × PS} {m : Nat} (hY : YesE placed pE m) (hN : NoE placed len pE m) (hK : Keeps pE) : ∀ (is : List Ins) (l : List Tk), (¬ ∃ nm rg kids r, PW placed (is.map Ins.wt ++ [.close]) l nm rg kids r) →
  l.length ≤ m → ∀ (st : PS) (fs : FS), st.l = l → st.fl = none → ∃ q, (∀ p, formRun placed len l (is.map Ins.wt ++ .close :: p) = some q) ∧ ((pIns len pE is fs st).2.expect len 3).stuck q := by
 intro is
 induction is with
 | nil =>
  intro l h hm st fs hl hf
  simp only [List.map_nil, List.nil_append, pIns] at h ⊢
  cases l with
  | nil => exact ⟨len, fun p => rfl, by have := expect_no (len := len) (k := 3) hf (by rw [hl]; simp [tk1]); rw [hl] at this; exact this⟩
  | cons t r =>
   by_cases hc : t.c = .cls
   ·exact absurd ⟨_, _, _, _, .close hc .nil⟩ h
   ·refine ⟨t.at_, fun p => by simp only [formRun, if_neg hc], ?_⟩
    have := expect_no (len := len) (k := 3) hf (by rw [hl]; exact fun e => hc ((kindN_cls _).1 e))
    rw [hl] at this; exact this
 | cons i is ih =>
  intro l h hm st fs hl hf
  cases i with
  | name =>
   simp only [List.map_cons, Ins.wt, List.cons_append] at h ⊢
   simp only [pIns]
   cases l with
   | nil =>
    refine ⟨len, fun p => rfl, ?_⟩
    have := expect_no (len := len) (k := 4) hf (by rw [hl]; simp [tk1])
    rw [hl] at this
    exact stuck_expect (keeps_ins hK len is _ _ this)
   | cons t r =>
    by_cases hc : t.c = .nam
    ·have hk : (tk1 len st.l).kind = 4 := by rw [hl]; exact (kindN_nam _).2 hc
     have hex : st.expect len 4 = { st with l := r } := by
      unfold PS.expect; rw [if_neg (by simp [hk])]; simp [PS.tail, hl]
     rw [hex]
     obtain ⟨q, h1, h2⟩ := ih r (fun ⟨nm, rg, kids, r', hp⟩ => h ⟨_, _, _, _, .name hc hp⟩) (by simp at hm; omega) { st with l := r } { fs with word := (tk1 len st.l).word } rfl hf
     exact ⟨q, fun p => by simp only [formRun, if_pos hc]; exact h1 p, h2⟩
    ·refine ⟨t.at_, fun p => by simp only [formRun, if_neg hc], ?_⟩
     have := expect_no (len := len) (k := 4) hf (by rw [hl]; exact fun e => hc ((kindN_nam _).1 e))
     rw [hl] at this
     exact stuck_expect (keeps_ins hK len is _ _ this)
  | region =>
   simp only [List.map_cons, Ins.wt, List.cons_append] at h ⊢
   simp only [pIns]
   cases l with
   | nil =>
    refine ⟨len, fun p => rfl, ?_⟩
    have := expect_no (len := len) (k := 6) hf (by rw [hl]; simp [tk1])
    rw [hl] at this
    exact stuck_expect (keeps_ins hK len is _ _ this)
   | cons t r =>
    by_cases hc : t.c = .reg
    ·have hk : (tk1 len st.l).kind = 6 := by rw [hl]; exact (kindN_reg _).2 hc
     have hex : st.expect len 6 = { st with l := r } := by
      unfold PS.expect; rw [if_neg (by simp [hk])]; simp [PS.tail, hl]
     rw [hex]
     obtain ⟨q, h1, h2⟩ := ih r (fun ⟨nm, rg, kids, r', hp⟩ => h ⟨_, _, _, _, .region hc hp⟩) (by simp at hm; omega) { st with l := r } { fs with region := (tk1 len st.l).num } rfl hf
     exact ⟨q, fun p => by simp only [formRun, if_pos hc]; exact h1 p, h2⟩
    ·refine ⟨t.at_, fun p => by simp only [formRun, if_neg hc], ?_⟩
     have := expect_no (len := len) (k := 6) hf (by rw [hl]; exact fun e => hc ((kindN_reg _).1 e))
     rw [hl] at this
     exact stuck_expect (keeps_ins hK len is _ _ this)
  | e =>
   simp only [List.map_cons, Ins.wt, List.cons_append] at h ⊢
   simp only [pIns]
   by_cases he : ∃ e r, PE placed l e r
   ·obtain ⟨e, r, he⟩ := he
    obtain ⟨ns1, hn1, hp1⟩ := hY l e r he hm st hl hf
    have hlt := he.len
    obtain ⟨q, h1, h2⟩ := ih r (fun ⟨nm, rg, kids, r', hp⟩ => h ⟨_, _, _, _, .e he hp⟩) (by omega) (pE st).2 { fs with parts := fs.parts ++ [(pE st).1] } (by rw [hp1]) (by rw [hp1]; exact hf)
    exact ⟨q, fun p => by rw [he.sound]; exact h1 p, h2⟩
   ·obtain ⟨q, h1, h2⟩ := hN l hm he st hl hf
    exact ⟨q, fun p => h1 _, stuck_expect (keeps_ins hK len is _ _ h2)⟩
  | body =>
   simp only [List.map_cons, Ins.wt, List.cons_append] at h ⊢
   simp only [pIns]
   by_cases he : ∃ e r, PE placed l e r
   ·obtain ⟨e, r, he⟩ := he
    obtain ⟨ns1, hn1, hp1⟩ := body_yes hY fs.word (fs.parts.getLastD (-1)) he hm st hl hf
    have hlt := he.len
    obtain ⟨q, h1, h2⟩ := ih r (fun ⟨nm, rg, kids, r', hp⟩ => h ⟨_, _, _, _, .e he hp⟩) (by omega) (pBody pE fs.word (fs.parts.getLastD (-1)) st).2 { fs with parts := fs.parts ++ [(pBody pE fs.word (fs.parts.getLastD (-1)) st).1] } (by rw [hp1]) (by rw [hp1]; exact hf)
    exact ⟨q, fun p => by rw [he.sound]; exact h1 p, h2⟩
   ·obtain ⟨q, h1, h2⟩ := hN l hm he { st with scope := st.scope ++ [(fs.word, fs.parts.getLastD (-1))] } hl hf
    exact ⟨q, fun p => h1 _, stuck_expect (keeps_ins hK len is _ _ h2)⟩
theorem any_num (len : Nat) (pB : NR → PS → Int × PS) (st : PS) {t : Tk} {r : List Tk} (hl : st.l = t :: r) (hc : t.c = .num) :
  pAny len pB st = ((st.nodes.length : Int), { st with l := r, nodes := st.nodes ++ [⟨1, t.at_, t.at_ + t.s.length, valueL t.s, [], 0, -1, -1, -1, -1⟩] }) := by
 simp [pAny, hl, tk1, tnOf, hc, kindN, numN, PS.tail, PS.add, nodeT]
theorem any_name (len : Nat) (pB : NR → PS → Int × PS) (st : PS) {t : Tk} {r : List Tk} (hl : st.l = t :: r) (hc : t.c = .nam) :
  pAny len pB st = ((st.nodes.length : Int), { st with l := r, nodes := st.nodes ++ [⟨2, t.at_, t.at_ + t.s.length, 0, t.s, 0, findS st.scope t.s, -1, -1, -1⟩] }) := by
 simp [pAny, hl, tk1, tnOf, hc, kindN, wordN, PS.tail, PS.add, nodeT]
theorem any_open (len : Nat) (pB : NR → PS → Int × PS) (st : PS) {t : Tk} {r : List Tk} (hl : st.l = t :: r) (hc : t.c = .opn) :
  pAny len pB st = pB ⟨0, t.at_, t.at_ + t.s.length, 0, [], 0, -1, -1, -1, -1⟩ { st with l := r } := by
 simp [pAny, hl, tk1, tnOf, hc, kindN, PS.tail, nodeT]
theorem any_bad (len : Nat) (pB : NR → PS → Int × PS) (st : PS) {t : Tk} {r : List Tk} (hl : st.l = t :: r) (h1 : t.c ≠ .num) (h2 : t.c ≠ .nam) (h3 : t.c ≠ .opn) (hf : st.fl = none) : (pAny len pB st).2.stuck t.at_ := by
 have e1 : ¬ kindN t.c = 5 := fun h => h1 ((kindN_num _).1 h)
 have e2 : ¬ kindN t.c = 4 := fun h => h2 ((kindN_nam _).1 h)
 have e3 : ¬ kindN t.c = 2 := fun h => h3 ((kindN_opn _).1 h)
 unfold pAny
 simp only [hl, tk1, tnOf, if_neg e1, if_neg e2, if_neg e3]
 exact fail_stuck hf
theorem any_end (len : Nat) (pB : NR → PS → Int × PS) (st : PS) (hl : st.l = []) (hf : st.fl = none) : (pAny len pB st).2.stuck len := by
 unfold pAny
 simp only [hl, tk1]
 exact fail_stuck hf
theorem set_seat (o X : List Int) (i : Int) : (o ++ [-1] ++ X).set o.length i = o ++ i :: X := by
 rw [List.append_assoc, List.set_append_right _ _ (Nat.le_refl _)]; simp
theorem form_wants (c : Cl) (placed : Bool) : (formN (kindN c) = 0 ∨ (formN (kindN c) = 12 ∧ placed = false)) ↔ wantsC c placed = [] := by
 cases c with
 | kw k => cases k <;> cases placed <;> decide
 | _ => cases placed <;> decide
theorem insK_head (k : Kw) (placed : Bool) : (insK k placed).head? ≠ some .body := by cases k <;> cases placed <;> decide
theorem PW.noname {placed : Bool} : ∀ {ws : List Wt} {l : List Tk} {nm rg : List UInt8} {kids : List PT} {r : List Tk}, PW placed ws l nm rg kids r → Wt.name ∉ ws → nm = []
 | _, _, _, _, _, _, .nil, _ => rfl
 | _, _, _, _, _, _, .close _ h1, hn => PW.noname h1 (fun h => hn (List.mem_cons_of_mem _ h))
 | _, _, _, _, _, _, .name _ _, hn => absurd List.mem_cons_self hn
 | _, _, _, _, _, _, .region _ h1, hn => PW.noname h1 (fun h => hn (List.mem_cons_of_mem _ h))
 | _, _, _, _, _, _, .e _ h1, hn => PW.noname h1 (fun h => hn (List.mem_cons_of_mem _ h))
theorem PW.noregion {placed : Bool} : ∀ {ws : List Wt} {l : List Tk} {nm rg : List UInt8} {kids : List PT} {r : List Tk}, PW placed ws l nm rg kids r → Wt.region ∉ ws → rg = []
 | _, _, _, _, _, _, .nil, _ => rfl
 | _, _, _, _, _, _, .close _ h1, hn => PW.noregion h1 (fun h => hn (List.mem_cons_of_mem _ h))
 | _, _, _, _, _, _, .region _ _, hn => absurd List.mem_cons_self hn
 | _, _, _, _, _, _, .name _ h1, hn => PW.noregion h1 (fun h => hn (List.mem_cons_of_mem _ h))
 | _, _, _, _, _, _, .e _ h1, hn => PW.noregion h1 (fun h => hn (List.mem_cons_of_mem _ h))
theorem expr_all (placed : Bool) (len : Nat) : ∀ n : Nat, YesE placed (pExpr placed len n) n ∧ NoE placed len (pExpr placed len n) n := by
 intro n
 induction n with
 | zero =>
  constructor
  ·intro l e r h hm
   obtain ⟨t, r', he, _⟩ := h.suffix
   rw [he] at hm; simp at hm
  ·intro l hm _ st hl hf
   have hl0 : l = [] := List.length_eq_zero_iff.1 (by omega)
   subst hl0
   refine ⟨len, fun p => rfl, ?_⟩
   unfold pExpr pSeat
   exact any_end len _ { st with opened := st.opened ++ [-1] } hl hf
 | succ m ih =>
  constructor
  ·intro l e r h hm st hl hf
   cases h with
   | num hc =>
    rename_i t
    refine ⟨_, rfl, ?_⟩
    unfold pExpr pSeat
    rw [any_num len _ { st with opened := st.opened ++ [-1] } hl hc]
    have := set_seat st.opened [] (st.nodes.length : Int)
    simp only [List.append_nil] at this
    simp only [this, opn, PT.cnt]
    congr 1
    omega
   | name hc =>
    rename_i t
    refine ⟨_, rfl, ?_⟩
    unfold pExpr pSeat
    rw [any_name len _ { st with opened := st.opened ++ [-1] } hl hc]
    have := set_seat st.opened [] (st.nodes.length : Int)
    simp only [List.append_nil] at this
    simp only [this, opn, PT.cnt]
    congr 1
    omega
   | node hc hk hw h4 =>
    rename_i t u k r0 nm rg kids
    have hkf : ¬ (formN (kindN u.c) = 0 ∨ (formN (kindN u.c) = 12 ∧ placed = false)) := by
     rw [form_wants, hk]; exact hw
    rw [insK_wants k placed hw] at h4
    simp only [List.length_cons] at hm
    obtain ⟨c, ns, h1, h2, h3⟩ := ins_yes len ih.1 (insK k placed) r0 nm rg kids r h4 (insK_wf k placed) (by omega)
     { st with opened := st.opened ++ [-1], l := r0 } ⟨[], [], 0⟩ nm rfl hf (fun e => absurd e (insK_head k placed)) (by
      split
      ·rfl
      ·rename_i hn
       have : Wt.name ∉ (insK k placed).map Ins.wt ++ [.close] := by
        intro hh
        rcases List.mem_append.1 hh with hh | hh
        ·obtain ⟨i, hi, e⟩ := List.mem_map.1 hh
         cases i with
         | name => exact hn (by simpa using hi)
         | _ => cases e
        ·simp at hh
       exact (PW.noname h4 this).symm)
    rw [bods_eq] at h2
    have hlen := h2.len
    have hrg : (if (insK k placed).contains .region then valueL rg else 0) = valueL rg := by
     split
     ·rfl
     ·rename_i hn
      have : Wt.region ∉ (insK k placed).map Ins.wt ++ [.close] := by
       intro hh
       rcases List.mem_append.1 hh with hh | hh
       ·obtain ⟨i, hi, e⟩ := List.mem_map.1 hh
        cases i with
        | region => exact hn (by simpa using hi)
        | _ => cases e
       ·simp at hh
      rw [PW.noregion h4 this]; rfl
    rw [hrg] at h3
    refine ⟨ns ++ [⟨formK k, t.at_, c.at_ + c.s.length, 0, nm, valueL rg, -1, (partsL kids st.nodes.length).getD 0 (-1), (partsL kids st.nodes.length).getD 1 (-1), (partsL kids st.nodes.length).getD 2 (-1)⟩], ⟨ns, _, h2, rfl⟩, ?_⟩
    unfold pExpr pSeat
    rw [any_open len _ { st with opened := st.opened ++ [-1] } hl hc]
    unfold pBracket
    have htk : tk1 len (u :: r0) = tnOf u := rfl
    simp only [htk]
    rw [if_neg (by simpa [tnOf] using hkf)]
    have hform : formN (tnOf u).kind = formK k := by simp [tnOf, hk, formK]
    rw [hform, pFill_ins placed len _ k hw]
    simp only [PS.tail, List.tail_cons]
    rw [h3]
    have hkc : (tk1 len (c :: r)).kind = 3 := (kindN_cls _).2 h1
    simp only [PS.expect, hkc]
    rw [if_neg (by simp)]
    simp only [PS.tail, List.tail_cons, PS.add, NR.filled, List.nil_append, tk1, tnOf, opn, PT.cnt]
    have := set_seat st.opened (opnL kids st.nodes.length) ((st.nodes ++ ns).length : Int)
    rw [this]
    simp only [List.length_append, hlen, List.append_assoc]
    congr 1
    omega
  ·intro l hm hn st hl hf
   cases l with
   | nil =>
    refine ⟨len, fun p => rfl, ?_⟩
    unfold pExpr pSeat
    exact any_end len _ { st with opened := st.opened ++ [-1] } hl hf
   | cons t r =>
    by_cases h1 : t.c = .num
    ·exact absurd ⟨_, _, .num h1⟩ hn
    by_cases h2 : t.c = .nam
    ·exact absurd ⟨_, _, .name h2⟩ hn
    by_cases h3 : t.c = .opn
    ·simp only [List.length_cons] at hm
     unfold pExpr pSeat
     rw [any_open len _ { st with opened := st.opened ++ [-1] } hl h3]
     unfold pBracket
     cases r with
     | nil =>
      refine ⟨len, fun p => by simp [formRun, h3], ?_⟩
      simp only [tk1, formN]
      exact fail_stuck hf
     | cons u r0 =>
      have htk : tk1 len (u :: r0) = tnOf u := rfl
      simp only [htk]
      by_cases hw : wantsC u.c placed = []
      ·have := (form_wants u.c placed).2 hw
       refine ⟨u.at_, fun p => by simp [formRun, h3, hw], ?_⟩
       rw [if_pos (by simpa [tnOf] using this)]
       exact fail_stuck hf
      ·have hkf : ¬ (formN (kindN u.c) = 0 ∨ (formN (kindN u.c) = 12 ∧ placed = false)) := fun h => hw ((form_wants u.c placed).1 h)
       rw [if_neg (by simpa [tnOf] using hkf)]
       cases hu : u.c with
       | kw k =>
        rw [hu] at hw
        have hw' : wantsK k placed ≠ [] := hw
        have hform : formN (tnOf u).kind = formK k := by simp [tnOf, hu, formK]
        rw [hform, pFill_ins placed len _ k hw']
        simp only [PS.tail, List.tail_cons]
        simp only [List.length_cons] at hm
        obtain ⟨q, hq1, hq2⟩ := ins_no (len := len) ih.1 ih.2 (keeps_expr placed len m) (insK k placed) r0 (fun ⟨nm, rg, kids, r', hp⟩ => hn ⟨_, _, .node h3 hu hw' (by rw [insK_wants k placed hw']; exact hp)⟩) (by omega)
         { st with opened := st.opened ++ [-1], l := r0 } ⟨[], [], 0⟩ rfl hf
        refine ⟨q, fun p => ?_, hq2⟩
        have := hq1 p
        simp only [formRun, h3, hu, wantsC]
        rw [if_neg hw', insK_wants k placed hw']
        simpa using this
       | _ => rw [hu] at hw; exact absurd rfl hw
    ·refine ⟨t.at_, fun p => ?_, ?_⟩
     ·simp only [formRun]
     ·unfold pExpr pSeat
      exact any_bad len _ { st with opened := st.opened ++ [-1] } hl h1 h2 h3 hf
def ps0 (l : List Tk) : PS := ⟨l, none, [], [], []⟩
def pProg (placed : Bool) (len : Nat) (l : List Tk) : PS := (pExpr placed len l.length (ps0 l)).2.expect len 0
theorem prog_yes {placed : Bool} {len : Nat} {l : List Tk} {e : PT} (h : PE placed l e []) :
  ∃ ns, NA [] e 0 ns ∧ pProg placed len l = ⟨[], none, [], ns, opn e 0⟩ := by
 obtain ⟨ns, h1, h2⟩ := (expr_all placed len l.length).1 l e [] h (Nat.le_refl _) (ps0 l) rfl rfl
 refine ⟨ns, h1, ?_⟩
 unfold pProg
 rw [h2]
 simp [PS.expect, tk1, PS.tail, ps0]
theorem prog_no {placed : Bool} {len : Nat} {l : List Tk} {q : Nat} (h : formRun placed len l [.e] = some q) : (pProg placed len l).fl = some q := by
 unfold pProg
 by_cases hp : ∃ e r, PE placed l e r
 ·obtain ⟨e, r, hp⟩ := hp
  rw [hp.sound] at h
  obtain ⟨ns, h1, h2⟩ := (expr_all placed len l.length).1 l e r hp (Nat.le_refl _) (ps0 l) rfl rfl
  cases r with
  | nil => simp [formRun] at h
  | cons t r =>
   simp only [formRun, Option.some.injEq] at h
   have := expect_no (len := len) (k := 0) (st := (pExpr placed len l.length (ps0 l)).2) (by rw [h2]; rfl) (by rw [h2]; exact kindN_pos _)
   rw [h2] at this
   rw [h2, this.1]
   simp [tk1, tnOf, h]
 ·obtain ⟨q', h1, h2⟩ := (expr_all placed len l.length).2 l (Nat.le_refl _) hp (ps0 l) rfl rfl
  rw [h1 []] at h
  simp only [Option.some.injEq] at h
  subst h
  exact (stuck_expect h2).1
def knownT (T : List Ty) (i : Int) : Ty := if 0 ≤ i then (T[i.toNat]?).getD .n else .n
def typeN (T : List Ty) (n : NR) : Ty × Nat :=
 if n.form = 2 then (if n.source = -1 then (.n, 4) else (knownT T n.source, 0))
 else if n.form = 12 then (knownT T n.p0, 0)
 else if n.form = 3 then (knownT T n.p1, 0)
 else if n.form = 4 then (if 63 < (Ty.p 0 (knownT T n.p0) (knownT T n.p1)).size then (.n, 6) else (.p 0 (knownT T n.p0) (knownT T n.p1), 0))
 else if n.form = 5 then (match knownT T n.p0 with
  | .n => (.n, 5)
  | .p _ x _ => (x, 0))
 else if n.form = 6 then (match knownT T n.p0 with
  | .n => (.n, 5)
  | .p _ _ x => (x, 0))
 else if n.form = 7 ∨ n.form = 11 then (knownT T n.p1, if knownT T n.p0 = .n ∧ knownT T n.p1 = knownT T n.p2 then 0 else 5)
 else if n.form = 8 ∨ n.form = 9 ∨ n.form = 10 then (.n, if knownT T n.p0 = .n ∧ knownT T n.p1 = .n then 0 else 5)
 else (.n, 0)
def ckRun : List Ty → List NR → (Nat × Nat) × List Ty
 | T, [] => ((0, 0), T)
 | T, n :: r => if (typeN T n).2 ≠ 0 then (((typeN T n).2, n.at_), T) else ckRun (T ++ [(typeN T n).1]) r
theorem ckRun_append : ∀ (a b : List NR) (T : List Ty), ckRun T (a ++ b) = if (ckRun T a).1.1 ≠ 0 then ckRun T a else ckRun (ckRun T a).2 b
 | [], b, T => by simp [ckRun]
 | n :: r, b, T => by
  simp only [List.cons_append, ckRun]
  by_cases h : (typeN T n).2 ≠ 0
  ·simp [h]
  ·simp only [if_neg h]; exact ckRun_append r b _
theorem bare_size (t : Ty) : t.bare.size = t.size := by
 induction t with
 | n => rfl
 | p r a b iha ihb => simp [Ty.bare, Ty.size, iha, ihb]
theorem bare_n (t : Ty) : t.bare = .n ↔ t = .n := by cases t <;> simp [Ty.bare]
def envRel (T : List Ty) : TEnv → Sc → Prop
 | [], [] => True
 | x :: e, y :: s => x.1 = y.1 ∧ 0 ≤ y.2 ∧ T[y.2.toNat]? = some x.2.bare ∧ envRel T e s
 | _, _ => False
theorem envRel.app {T : List Ty} : ∀ {e e' : TEnv} {s s' : Sc}, envRel T e s → envRel T e' s' → envRel T (e ++ e') (s ++ s')
 | [], _, [], _, _, h => h
 | _ :: _, _, _ :: _, _, h, h' => ⟨h.1, h.2.1, h.2.2.1, envRel.app h.2.2.2 h'⟩
 | [], _, _ :: _, _, h, _ => h.elim
 | _ :: _, _, [], _, h, _ => h.elim
theorem envRel.rev {T : List Ty} : ∀ {e : TEnv} {s : Sc}, envRel T e s → envRel T e.reverse s.reverse
 | [], [], _ => trivial
 | _ :: _, _ :: _, h => by
  rw [List.reverse_cons, List.reverse_cons]
  exact envRel.app (envRel.rev h.2.2.2) ⟨h.1, h.2.1, h.2.2.1, trivial⟩
 | [], _ :: _, h => h.elim
 | _ :: _, [], h => h.elim
theorem envRel.more {T T' : List Ty} : ∀ {e : TEnv} {s : Sc}, envRel T e s → envRel (T ++ T') e s
 | [], [], _ => trivial
 | _ :: _, _ :: _, h => ⟨h.1, h.2.1, by
   have h3 := h.2.2.1
   rw [List.getElem?_append_left (List.getElem?_eq_some_iff.1 h3).1]; exact h3, envRel.more h.2.2.2⟩
 | [], _ :: _, h => h.elim
 | _ :: _, [], h => h.elim
theorem envRel.find {T : List Ty} (w : List UInt8) : ∀ {e : TEnv} {s : Sc}, envRel T e s →
  (e.find? (fun x => x.1 == w) = none ∧ s.find? (fun x => x.1 == w) = none) ∨ (∃ x y, e.find? (fun x => x.1 == w) = some x ∧ s.find? (fun x => x.1 == w) = some y ∧ 0 ≤ y.2 ∧ T[y.2.toNat]? = some x.2.bare)
 | [], [], _ => Or.inl ⟨rfl, rfl⟩
 | x :: _, y :: _, h => by
  rw [List.find?_cons, List.find?_cons, ← h.1]
  by_cases hw : (x.1 == w) = true
  ·rw [hw]; exact Or.inr ⟨x, y, rfl, rfl, h.2.1, h.2.2.1⟩
  ·have hw' : (x.1 == w) = false := by simpa using hw
   rw [hw']; exact envRel.find w h.2.2.2
 | [], _ :: _, h => h.elim
 | _ :: _, [], h => h.elim
theorem envRel.look {T : List Ty} {e : TEnv} {s : Sc} (h : envRel T e s) (w : List UInt8) :
  (look e w = none ∧ findS s w = -1) ∨ (∃ t, look e w = some t ∧ findS s w ≠ -1 ∧ knownT T (findS s w) = t.bare) := by
 rcases h.rev.find w with ⟨h1, h2⟩ | ⟨x, y, h1, h2, h3, h4⟩
 ·left; unfold Go.Proofs.YtpicaknklgccoaaGreatDoor.look findS; rw [h1, h2]; exact ⟨rfl, rfl⟩
 ·right
  refine ⟨x.2, ?_, ?_, ?_⟩
  ·unfold Go.Proofs.YtpicaknklgccoaaGreatDoor.look; rw [h1]; rfl
  ·unfold findS; rw [h2]; simp only; omega
  ·unfold findS knownT; rw [h2]; simp only; rw [if_pos h3, h4]; rfl
theorem errS_stay (st : TSt) (e p : Nat) (h : st.e ≠ 0) : errS st e p = st := by unfold errS; rw [if_neg h]
theorem fin_stay (id p : Nat) (x : Ty × TSt) (h : x.2.e ≠ 0) : (fin id p x).2.e = x.2.e ∧ (fin id p x).2.at_ = x.2.at_ := by
 unfold fin; simp only; rw [if_neg (fun hh => h hh.1)]; exact ⟨rfl, rfl⟩
mutual
theorem tyFind_stay (cls : List Nat) : ∀ (t : PT) (id site : Nat) (env : TEnv) (st : TSt), st.e ≠ 0 → (tyFind cls t id site env st).2.e = st.e ∧ (tyFind cls t id site env st).2.at_ = st.at_
 | .num p s, id, site, env, st, h => by simp only [tyFind]; exact fin_stay _ _ _ h
 | .name p s, id, site, env, st, h => by
  simp only [tyFind]
  split
  ·exact fin_stay _ _ _ h
  ·rw [errS_stay _ _ _ h]; exact fin_stay _ _ _ h
 | .node p k nm rg kids, id, site, env, st, h => by
  simp only [tyFind]
  split
  ·have := tyLet_stay cls nm kids (id + 1) site env st h
   have h2 := fin_stay id p (tyLet cls nm kids (id + 1) site env st) (by rw [this.1]; exact h)
   exact ⟨h2.1.trans this.1, h2.2.trans this.2⟩
  ·have hx : (if k = .loop then tyLoop cls nm kids (id + 1) site env st else tyKids cls kids (id + 1) (site + if k = .pair then 1 else 0) env st).2.e = st.e ∧ (if k = .loop then tyLoop cls nm kids (id + 1) site env st else tyKids cls kids (id + 1) (site + if k = .pair then 1 else 0) env st).2.at_ = st.at_ := by
    by_cases hk : k = .loop
    ·simp only [if_pos hk]; exact tyLoop_stay cls nm kids _ _ env st h
    ·simp only [if_neg hk]; exact tyKids_stay cls kids _ _ env st h
   generalize (if k = .loop then tyLoop cls nm kids (id + 1) site env st else tyKids cls kids (id + 1) (site + if k = .pair then 1 else 0) env st) = x at hx
   have hne : x.2.e ≠ 0 := by rw [hx.1]; exact h
   rw [if_pos hne]
   have h2 := fin_stay id p (Ty.n, x.2) hne
   exact ⟨h2.1.trans hx.1, h2.2.trans hx.2⟩
theorem tyKids_stay (cls : List Nat) : ∀ (ts : List PT) (id site : Nat) (env : TEnv) (st : TSt), st.e ≠ 0 → (tyKids cls ts id site env st).2.e = st.e ∧ (tyKids cls ts id site env st).2.at_ = st.at_
 | [], _, _, _, st, _ => by simp [tyKids]
 | a :: r, id, site, env, st, h => by
  simp only [tyKids]
  have h1 := tyFind_stay cls a id site env st h
  have h2 := tyKids_stay cls r (id + a.cnt) (site + a.prs) env (tyFind cls a id site env st).2 (by rw [h1.1]; exact h)
  exact ⟨h2.1.trans h1.1, h2.2.trans h1.2⟩
theorem tyLet_stay (cls : List Nat) (nm : List UInt8) : ∀ (ts : List PT) (id site : Nat) (env : TEnv) (st : TSt), st.e ≠ 0 → (tyLet cls nm ts id site env st).2.e = st.e ∧ (tyLet cls nm ts id site env st).2.at_ = st.at_
 | [a, b], id, site, env, st, h => by
  simp only [tyLet]
  have h1 := tyFind_stay cls a id site env st h
  have h2 := tyFind_stay cls b (id + a.cnt) (site + a.prs) (env ++ [(nm, (tyFind cls a id site env st).1)]) (tyFind cls a id site env st).2 (by rw [h1.1]; exact h)
  exact ⟨h2.1.trans h1.1, h2.2.trans h1.2⟩
 | [], _, _, _, st, _ => by simp [tyLet]
 | [_], _, _, _, st, _ => by simp [tyLet]
 | _ :: _ :: _ :: _, _, _, _, st, _ => by simp [tyLet]
theorem tyLoop_stay (cls : List Nat) (nm : List UInt8) : ∀ (ts : List PT) (id site : Nat) (env : TEnv) (st : TSt), st.e ≠ 0 → (tyLoop cls nm ts id site env st).2.e = st.e ∧ (tyLoop cls nm ts id site env st).2.at_ = st.at_
 | [a, b, c], id, site, env, st, h => by
  simp only [tyLoop]
  have h1 := tyFind_stay cls a id site env st h
  have h2 := tyFind_stay cls b (id + a.cnt) (site + a.prs) env (tyFind cls a id site env st).2 (by rw [h1.1]; exact h)
  have h3 := tyFind_stay cls c (id + a.cnt + b.cnt) (site + a.prs + b.prs) (env ++ [(nm, (tyFind cls b (id + a.cnt) (site + a.prs) env (tyFind cls a id site env st).2).1)]) (tyFind cls b (id + a.cnt) (site + a.prs) env (tyFind cls a id site env st).2).2 (by rw [h2.1, h1.1]; exact h)
  exact ⟨h3.1.trans (h2.1.trans h1.1), h3.2.trans (h2.2.trans h1.2)⟩
 | [], _, _, _, st, _ => by simp [tyLoop]
 | [_], _, _, _, st, _ => by simp [tyLoop]
 | [_, _], _, _, _, st, _ => by simp [tyLoop]
 | _ :: _ :: _ :: _ :: _, _, _, _, st, _ => by simp [tyLoop]
end
def tyB (cls : List Nat) (nm : List UInt8) : List PT → List Bool → Nat → Nat → TEnv → Ty → TSt → List Ty × TSt
 | a :: r, b :: bs, id, site, env, prev, st =>
  let x := tyFind cls a id site (if b then env ++ [(nm, prev)] else env) st
  let y := tyB cls nm r bs (id + a.cnt) (site + a.prs) env x.1 x.2
  (x.1 :: y.1, y.2)
 | _, _, _, _, _, _, st => ([], st)
theorem tyB_kids (cls : List Nat) (nm : List UInt8) : ∀ (ts : List PT) (bs : List Bool) (id site : Nat) (env : TEnv) (prev : Ty) (st : TSt), bs.length = ts.length → (∀ b ∈ bs, b = false) → tyB cls nm ts bs id site env prev st = tyKids cls ts id site env st
 | [], [], _, _, _, _, _, _, _ => by simp [tyB, tyKids]
 | a :: r, b :: bs, id, site, env, prev, st, h, hb => by
  have hb0 : b = false := hb b List.mem_cons_self
  subst hb0
  simp only [tyB, tyKids, Bool.false_eq_true, if_false]
  rw [tyB_kids cls nm r bs _ _ _ _ _ (by simpa using h) (fun b hb' => hb b (List.mem_cons_of_mem _ hb'))]
 | [], _ :: _, _, _, _, _, _, h, _ => by simp at h
 | _ :: _, [], _, _, _, _, _, h, _ => by simp at h
theorem tyB_len (cls : List Nat) (nm : List UInt8) : ∀ (ts : List PT) (bs : List Bool) (id site : Nat) (env : TEnv) (prev : Ty) (st : TSt), bs.length = ts.length → (tyB cls nm ts bs id site env prev st).1.length = bs.length
 | [], [], _, _, _, _, _, _ => by simp [tyB]
 | a :: r, b :: bs, id, site, env, prev, st, h => by
  simp only [tyB, List.length_cons]
  rw [tyB_len cls nm r bs _ _ _ _ _ (by simpa using h)]
 | [], _ :: _, _, _, _, _, _, h => by simp at h
 | _ :: _, [], _, _, _, _, _, h => by simp at h
theorem tyB_stay (cls : List Nat) (nm : List UInt8) : ∀ (ts : List PT) (bs : List Bool) (id site : Nat) (env : TEnv) (prev : Ty) (st : TSt), st.e ≠ 0 → (tyB cls nm ts bs id site env prev st).2.e = st.e ∧ (tyB cls nm ts bs id site env prev st).2.at_ = st.at_
 | a :: r, b :: bs, id, site, env, prev, st, h => by
  simp only [tyB]
  have h1 := tyFind_stay cls a id site (if b then env ++ [(nm, prev)] else env) st h
  have h2 := tyB_stay cls nm r bs (id + a.cnt) (site + a.prs) env (tyFind cls a id site (if b then env ++ [(nm, prev)] else env) st).1 (tyFind cls a id site (if b then env ++ [(nm, prev)] else env) st).2 (by rw [h1.1]; exact h)
  exact ⟨h2.1.trans h1.1, h2.2.trans h1.2⟩
 | [], _, _, _, _, _, _, _ => by simp [tyB]
 | _ :: _, [], _, _, _, _, _, _ => by simp [tyB]
def Agree (T : List Ty) (n : Nat) (e at_ : Nat) (y : (Nat × Nat) × List Ty) (P : List Ty → Prop) : Prop :=
 (e = 0 ∧ y.1 = (0, 0) ∧ ∃ T', y.2 = T ++ T' ∧ T'.length = n ∧ P (T ++ T')) ∨ (e ≠ 0 ∧ y.1 = (e, at_))
theorem known_some {T : List Ty} {i : Nat} {t : Ty} (h : T[i]? = some t) : knownT T (i : Int) = t := by
 unfold knownT; rw [if_pos (by omega)]; simp [h]
theorem fin_smallN (id p : Nat) (x : Ty × TSt) (h : x.1.size ≤ 63) : (fin id p x).1 = x.1 ∧ (fin id p x).2.e = x.2.e ∧ (fin id p x).2.at_ = x.2.at_ := by
 have hn : ¬ (x.2.e = 0 ∧ 63 < x.1.size) := by omega
 simp only [fin, if_neg hn, and_self]
theorem fin_bigN (id p : Nat) (x : Ty × TSt) (h0 : x.2.e = 0) (h : 63 < x.1.size) : (fin id p x).2.e = 6 ∧ (fin id p x).2.at_ = p := by
 unfold fin errS; simp only; rw [if_pos ⟨h0, h⟩, if_pos h0]; exact ⟨rfl, rfl⟩
def nodeT2 (cls : List Nat) (k : Kw) (p site : Nat) (ks : List Ty) (st : TSt) : Ty × TSt :=
 if k = .let_ then (ks.getD 1 .n, st) else madeT cls k p site ks st
theorem err5 (st : TSt) (p id : Nat) (h : st.e = 0) : (fin id p (Ty.n, errS st 5 p)).2.e = 5 ∧ (fin id p (Ty.n, errS st 5 p)).2.at_ = p := by
 have h1 : (errS st 5 p).e = 5 ∧ (errS st 5 p).at_ = p := by unfold errS; rw [if_pos h]; exact ⟨rfl, rfl⟩
 have := fin_smallN id p (Ty.n, errS st 5 p) (by simp [Ty.size])
 exact ⟨this.2.1.trans h1.1, this.2.2.trans h1.2⟩
theorem node_made (cls : List Nat) (k : Kw) (id p site : Nat) (ks : List Ty) (st : TSt) (T : List Ty) (beh : Nat) (nm : List UInt8) (rg : Int) (p0 p1 p2 : Int) (hl : ks.length = (bodK k).length) (h0 : st.e = 0) (hs : ∀ t ∈ ks, t.size ≤ 63)
  (k0 : ∀ t, ks[0]? = some t → knownT T p0 = t.bare) (k1 : ∀ t, ks[1]? = some t → knownT T p1 = t.bare) (k2 : ∀ t, ks[2]? = some t → knownT T p2 = t.bare) :
  ((fin id p (nodeT2 cls k p site ks st)).2.e = 0 ∧ typeN T ⟨formK k, p, beh, 0, nm, rg, -1, p0, p1, p2⟩ = ((fin id p (nodeT2 cls k p site ks st)).1.bare, 0)) ∨
  ((fin id p (nodeT2 cls k p site ks st)).2.e ≠ 0 ∧ (typeN T ⟨formK k, p, beh, 0, nm, rg, -1, p0, p1, p2⟩).2 = (fin id p (nodeT2 cls k p site ks st)).2.e ∧ (fin id p (nodeT2 cls k p site ks st)).2.at_ = p) := by
 have small : ∀ (t : Ty) (f : NR), t.size ≤ 63 → nodeT2 cls k p site ks st = (t, st) → typeN T f = (t.bare, 0) → ((fin id p (nodeT2 cls k p site ks st)).2.e = 0 ∧ typeN T f = ((fin id p (nodeT2 cls k p site ks st)).1.bare, 0)) ∨ ((fin id p (nodeT2 cls k p site ks st)).2.e ≠ 0 ∧ (typeN T f).2 = (fin id p (nodeT2 cls k p site ks st)).2.e ∧ (fin id p (nodeT2 cls k p site ks st)).2.at_ = p) := by
  intro t f ht he hf
  rw [he]
  have := fin_smallN id p (t, st) ht
  exact Or.inl ⟨this.2.1.trans h0, by rw [this.1]; exact hf⟩
 have bad : ∀ (f : NR), nodeT2 cls k p site ks st = (.n, errS st 5 p) → (typeN T f).2 = 5 → ((fin id p (nodeT2 cls k p site ks st)).2.e = 0 ∧ typeN T f = ((fin id p (nodeT2 cls k p site ks st)).1.bare, 0)) ∨ ((fin id p (nodeT2 cls k p site ks st)).2.e ≠ 0 ∧ (typeN T f).2 = (fin id p (nodeT2 cls k p site ks st)).2.e ∧ (fin id p (nodeT2 cls k p site ks st)).2.at_ = p) := by
  intro f he hf
  rw [he]
  have := err5 st p id h0
  exact Or.inr ⟨by rw [this.1]; decide, by rw [this.1]; exact hf, this.2⟩
 match k, ks, hl with
 | .let_, [a, b], _ =>
  have e1 := k1 b rfl
  exact small b _ (hs b (by simp)) (by simp [nodeT2]) (by simp [typeN, formK, kindN, formN, e1])
 | .new, [a], _ =>
  have e0 := k0 a rfl
  exact small a _ (hs a (by simp)) (by simp [nodeT2, madeT]) (by simp [typeN, formK, kindN, formN, e0])
 | .pair, [a, b], _ =>
  have e0 := k0 a rfl
  have e1 := k1 b rfl
  have he : nodeT2 cls .pair p site [a, b] st = (.p (cls.getD site 0) a b, st) := by simp [nodeT2, madeT]
  generalize cls.getD site 0 = g at he
  have hsz : (Ty.p 0 a.bare b.bare).size = (Ty.p g a b).size := by simp [Ty.size, bare_size]
  by_cases hbig : 63 < (Ty.p g a b).size
  ·right
   rw [he]
   have := fin_bigN id p (.p g a b, st) h0 hbig
   refine ⟨by rw [this.1]; decide, ?_, this.2⟩
   rw [this.1]
   simp only [typeN, formK, kindN, formN, e0, e1, hsz]
   simp [hbig]
  ·exact small _ _ (by omega) he (by simp only [typeN, formK, kindN, formN, e0, e1, hsz]; simp [hbig, Ty.bare])
 | .fst, [a], _ =>
  have e0 := k0 a rfl
  cases a with
  | n => exact bad _ (by simp [nodeT2, madeT]) (by simp only [typeN, formK, kindN, formN, e0]; simp [Ty.bare])
  | p r x y =>
   have hsx : x.size ≤ 63 := by have := hs (.p r x y) (by simp); simp only [Ty.size] at this; omega
   exact small x _ hsx (by simp [nodeT2, madeT]) (by simp only [typeN, formK, kindN, formN, e0]; simp [Ty.bare])
 | .snd, [a], _ =>
  have e0 := k0 a rfl
  cases a with
  | n => exact bad _ (by simp [nodeT2, madeT]) (by simp only [typeN, formK, kindN, formN, e0]; simp [Ty.bare])
  | p r x y =>
   have hsx : y.size ≤ 63 := by have := hs (.p r x y) (by simp); simp only [Ty.size] at this; omega
   exact small y _ hsx (by simp [nodeT2, madeT]) (by simp only [typeN, formK, kindN, formN, e0]; simp [Ty.bare])
 | .if_, [a, b, c], _ =>
  have e0 := k0 a rfl
  have e1 := k1 b rfl
  have e2 := k2 c rfl
  by_cases hh : a = .n ∧ b.bare = c.bare
  ·exact small b _ (hs b (by simp)) (by simp [nodeT2, madeT, hh]) (by simp only [typeN, formK, kindN, formN, e0, e1, e2]; simp [bare_n, hh])
  ·exact bad _ (by simp only [nodeT2, madeT]; simp [hh]) (by simp only [typeN, formK, kindN, formN, e0, e1, e2]; simp only [bare_n]; simp [hh])
 | .loop, [a, b, c], _ =>
  have e0 := k0 a rfl
  have e1 := k1 b rfl
  have e2 := k2 c rfl
  by_cases hh : a = .n ∧ b.bare = c.bare
  ·exact small b _ (hs b (by simp)) (by simp [nodeT2, madeT, hh]) (by simp only [typeN, formK, kindN, formN, e0, e1, e2]; simp [bare_n, hh])
  ·exact bad _ (by simp only [nodeT2, madeT]; simp [hh]) (by simp only [typeN, formK, kindN, formN, e0, e1, e2]; simp only [bare_n]; simp [hh])
 | .add, [a, b], _ =>
  have e0 := k0 a rfl
  have e1 := k1 b rfl
  by_cases hh : a = .n ∧ b = .n
  ·exact small .n _ (by simp [Ty.size]) (by simp [nodeT2, madeT, hh]) (by simp only [typeN, formK, kindN, formN, e0, e1]; simp [hh, Ty.bare])
  ·exact bad _ (by simp only [nodeT2, madeT]; simp [hh]) (by simp only [typeN, formK, kindN, formN, e0, e1]; simp only [bare_n]; simp [hh])
 | .sub, [a, b], _ =>
  have e0 := k0 a rfl
  have e1 := k1 b rfl
  by_cases hh : a = .n ∧ b = .n
  ·exact small .n _ (by simp [Ty.size]) (by simp [nodeT2, madeT, hh]) (by simp only [typeN, formK, kindN, formN, e0, e1]; simp [hh, Ty.bare])
  ·exact bad _ (by simp only [nodeT2, madeT]; simp [hh]) (by simp only [typeN, formK, kindN, formN, e0, e1]; simp only [bare_n]; simp [hh])
 | .less, [a, b], _ =>
  have e0 := k0 a rfl
  have e1 := k1 b rfl
  by_cases hh : a = .n ∧ b = .n
  ·exact small .n _ (by simp [Ty.size]) (by simp [nodeT2, madeT, hh]) (by simp only [typeN, formK, kindN, formN, e0, e1]; simp [hh, Ty.bare])
  ·exact bad _ (by simp only [nodeT2, madeT]; simp [hh]) (by simp only [typeN, formK, kindN, formN, e0, e1]; simp only [bare_n]; simp [hh])
theorem NAs.bods {scope : Sc} {nm : List UInt8} : ∀ {ts : List PT} {bs : List Bool} {base : Nat} {ns : List NR}, NAs scope nm ts bs base ns → bs.length = ts.length
 | [], _, _, _, h => by simp only [NAs] at h; simp [h.1]
 | _ :: _, [], _, _, h => by simp [NAs] at h
 | t :: r, b :: bs, _, _, h => by
  simp only [NAs] at h
  obtain ⟨a, c, h1, h2, rfl⟩ := h
  simp [NAs.bods h2]
theorem node_tyB (cls : List Nat) (p : Nat) (k : Kw) (nm rg : List UInt8) (kids : List PT) (id site : Nat) (env : TEnv) (prev : Ty) (st : TSt) (hl : (bodK k).length = kids.length) :
  tyFind cls (.node p k nm rg kids) id site env st = fin id p (
   if (tyB cls nm kids (bodK k) (id + 1) (site + if k = .pair then 1 else 0) env prev st).2.e ≠ 0 ∧ k ≠ .let_ then (.n, (tyB cls nm kids (bodK k) (id + 1) (site + if k = .pair then 1 else 0) env prev st).2)
   else nodeT2 cls k p site (tyB cls nm kids (bodK k) (id + 1) (site + if k = .pair then 1 else 0) env prev st).1 (tyB cls nm kids (bodK k) (id + 1) (site + if k = .pair then 1 else 0) env prev st).2) := by
 have hk : ∀ bs, bodK k = bs → (∀ b ∈ bs, b = false) → tyB cls nm kids (bodK k) (id + 1) (site + if k = .pair then 1 else 0) env prev st = tyKids cls kids (id + 1) (site + if k = .pair then 1 else 0) env st := by
  intro bs hb h
  exact tyB_kids cls nm kids (bodK k) _ _ env prev st hl (by rw [hb]; exact h)
 by_cases h1 : k = .let_
 ·subst h1
  match kids, hl with
  | [a, b], _ => simp [tyFind, tyLet, tyB, bodK, nodeT2]
 by_cases h2 : k = .loop
 ·subst h2
  match kids, hl with
  | [a, b, c], _ => simp [tyFind, tyLoop, tyB, bodK, nodeT2]
 have h3 : ∀ b ∈ bodK k, b = false := by
  revert h1 h2; cases k <;> simp [bodK]
 rw [hk _ rfl h3]
 simp only [tyFind, if_neg h1, if_neg h2, nodeT2]
 simp [h1]
mutual
theorem tyck (cls : List Nat) (hc : ∀ x ∈ cls, x < 1000) : ∀ (t : PT) (scope : Sc) (ns : List NR) (env : TEnv) (st : TSt) (T : List Ty) (id site : Nat), NA scope t T.length ns → envRel T env scope → st.e = 0 → envOk env st →
  Agree T t.cnt (tyFind cls t id site env st).2.e (tyFind cls t id site env st).2.at_ (ckRun T ns) (fun T1 => T1[T.length + t.cnt - 1]? = some (tyFind cls t id site env st).1.bare)
 | .num p s, scope, ns, env, st, T, id, site, hn, _, h0, _ => by
  simp only [NA] at hn
  subst hn
  simp only [tyFind]
  have hf := fin_smallN id p (Ty.n, st) (by simp [Ty.size])
  left
  refine ⟨hf.2.1.trans h0, by simp [ckRun, typeN], [.n], by simp [ckRun, typeN], rfl, ?_⟩
  rw [hf.1]; simp [PT.cnt, Ty.bare]
 | .name p s, scope, ns, env, st, T, id, site, hn, hr, h0, ho => by
  simp only [NA] at hn
  subst hn
  simp only [tyFind]
  rcases hr.look s with ⟨h1, h2⟩ | ⟨t, h1, h2, h3⟩
  ·rw [h1]
   simp only
   have hf := fin_smallN id p (Ty.n, errS st 4 p) (by simp [Ty.size])
   have he : (errS st 4 p).e = 4 ∧ (errS st 4 p).at_ = p := by unfold errS; rw [if_pos h0]; exact ⟨rfl, rfl⟩
   right
   refine ⟨by rw [hf.2.1]; simp [he.1], ?_⟩
   rw [hf.2.1, hf.2.2]
   simp [ckRun, typeN, h2, he]
  ·rw [h1]
   simp only
   obtain ⟨x, hx, rfl⟩ := look_mem h1
   have hf := fin_smallN id p (x.2, st) (ho.2 h0 x hx)
   left
   refine ⟨hf.2.1.trans h0, by simp [ckRun, typeN, h2], [x.2.bare], by simp [ckRun, typeN, h2, h3], rfl, ?_⟩
   rw [hf.1]; simp [PT.cnt]
 | .node p k nm rg kids, scope, ns, env, st, T, id, site, hn, hr, h0, ho => by
  simp only [NA] at hn
  obtain ⟨ks, beh, hks, rfl⟩ := hn
  have hb := hks.bods
  have hK := tycks cls hc nm kids (bodK k) scope ks env .n st T (id + 1) (site + if k = .pair then 1 else 0) hks hr h0 ho fit_n (by simp [Ty.size]) (fun e => by revert e; cases k <;> simp [bodK])
  have hlen : (tyB cls nm kids (bodK k) (id + 1) (site + if k = .pair then 1 else 0) env .n st).1.length = (bodK k).length := tyB_len cls nm kids (bodK k) _ _ _ _ _ hb
  rw [node_tyB cls p k nm rg kids id site env .n st hb]
  generalize tyB cls nm kids (bodK k) (id + 1) (site + if k = .pair then 1 else 0) env .n st = x at hK hlen
  rw [ckRun_append]
  obtain ⟨hA, hS⟩ := hK
  rcases hA with ⟨e0, hy, T', hT', hT'l, hP⟩ | ⟨e1, hy⟩
  ·have hcond : ¬ (x.2.e ≠ 0 ∧ k ≠ .let_) := fun h => h.1 e0
   rw [if_neg hcond, hy, if_neg (by simp), hT']
   have hnm := node_made cls k id p site x.1 x.2 (T ++ T') beh nm (valueL rg) ((partsL kids T.length).getD 0 (-1)) ((partsL kids T.length).getD 1 (-1)) ((partsL kids T.length).getD 2 (-1)) hlen e0 (fun t ht => hS e0 t ht) (hP 0) (hP 1) (hP 2)
   simp only [ckRun]
   rcases hnm with ⟨f0, ft⟩ | ⟨f1, f2, f3⟩
   ·left
    rw [ft]
    refine ⟨f0, by simp, T' ++ [(fin id p (nodeT2 cls k p site x.1 x.2)).1.bare], by simp, by simp [hT'l, PT.cnt]; omega, ?_⟩
    show (T ++ (T' ++ [_]))[_]? = _
    have hi : T.length + (PT.node p k nm rg kids).cnt - 1 = (T ++ T').length := by simp [hT'l, PT.cnt]; omega
    rw [← List.append_assoc, hi, List.getElem?_append_right (Nat.le_refl _)]
    simp
   ·right
    rw [f2, if_pos f1]
    exact ⟨f1, by simp [f3]⟩
  ·have hne : (ckRun T ks).1.1 ≠ 0 := by rw [hy]; exact e1
   rw [if_pos hne]
   right
   have hst : ∀ y : Ty × TSt, y.2 = x.2 → (fin id p y).2.e ≠ 0 ∧ (ckRun T ks).1 = ((fin id p y).2.e, (fin id p y).2.at_) := by
    intro y hyx
    have := fin_stay id p y (by rw [hyx]; exact e1)
    rw [this.1, this.2, hyx]; exact ⟨e1, hy⟩
   by_cases hk : k = .let_
   ·rw [if_neg (fun h => h.2 hk)]
    exact hst _ (by simp [nodeT2, hk])
   ·rw [if_pos ⟨e1, hk⟩]
    exact hst _ rfl
theorem tycks (cls : List Nat) (hc : ∀ x ∈ cls, x < 1000) (nm : List UInt8) : ∀ (ts : List PT) (bs : List Bool) (scope : Sc) (ns : List NR) (env : TEnv) (prev : Ty) (st : TSt) (T : List Ty) (id site : Nat), NAs scope nm ts bs T.length ns → envRel T env scope → st.e = 0 → envOk env st →
  prev.fit → prev.size ≤ 63 → (bs.head? = some true → 0 < T.length ∧ T[T.length - 1]? = some prev.bare) →
  Agree T (cntL ts) (tyB cls nm ts bs id site env prev st).2.e (tyB cls nm ts bs id site env prev st).2.at_ (ckRun T ns) (fun T1 => ∀ (j : Nat) (t : Ty), (tyB cls nm ts bs id site env prev st).1[j]? = some t → knownT T1 ((partsL ts T.length).getD j (-1)) = t.bare) ∧
   ((tyB cls nm ts bs id site env prev st).2.e = 0 → ∀ t ∈ (tyB cls nm ts bs id site env prev st).1, t.size ≤ 63)
 | [], bs, scope, ns, env, prev, st, T, id, site, hn, _, h0, _, _, _, _ => by
  simp only [NAs] at hn
  obtain ⟨rfl, rfl⟩ := hn
  simp only [tyB]
  exact ⟨Or.inl ⟨h0, rfl, [], by simp [ckRun], rfl, by simp⟩, by simp⟩
 | _ :: _, [], _, _, _, _, _, _, _, _, hn, _, _, _, _, _, _ => by simp [NAs] at hn
 | a :: r, b :: bs, scope, ns, env, prev, st, T, id, site, hn, hr, h0, ho, hp1, hp2, hp3 => by
  simp only [NAs] at hn
  obtain ⟨na, nc, h1, h2, rfl⟩ := hn
  have hr' : envRel T (if b then env ++ [(nm, prev)] else env) (if b then scope ++ [(nm, (T.length : Int) - 1)] else scope) := by
   cases b with
   | false => exact hr
   | true =>
    obtain ⟨hT0, hT1⟩ := hp3 rfl
    refine hr.app ⟨rfl, ?_, ?_, trivial⟩
    ·show (0 : Int) ≤ (T.length : Int) - 1; omega
    ·show T[((T.length : Int) - 1).toNat]? = _
     rw [show ((T.length : Int) - 1).toNat = T.length - 1 from by omega]; exact hT1
  have ho' : envOk (if b then env ++ [(nm, prev)] else env) st := by
   cases b with
   | false => exact ho
   | true =>
    constructor
    ·intro x hx
     rcases List.mem_append.1 hx with hx | hx
     ·exact ho.1 x hx
     ·rw [List.mem_singleton] at hx; subst hx; exact hp1
    ·intro e0 x hx
     rcases List.mem_append.1 hx with hx | hx
     ·exact ho.2 e0 x hx
     ·rw [List.mem_singleton] at hx; subst hx; exact hp2
  have hA := tyck cls hc a (if b then scope ++ [(nm, (T.length : Int) - 1)] else scope) na (if b then env ++ [(nm, prev)] else env) st T id site h1 hr' h0 ho'
  have hR := tyFind_ok cls hc a id site (if b then env ++ [(nm, prev)] else env) st ho'
  simp only [tyB]
  generalize tyFind cls a id site (if b then env ++ [(nm, prev)] else env) st = x at hA hR
  rw [ckRun_append]
  rcases hA with ⟨e0, hy, T', hT', hT'l, hP⟩ | ⟨e1, hy⟩
  ·rw [hy, if_neg (by simp), hT']
   have hl1 : (T ++ T').length = T.length + a.cnt := by simp [hT'l]
   have hcp := cnt_pos' a
   have hB := tycks cls hc nm r bs scope nc env x.1 x.2 (T ++ T') (id + a.cnt) (site + a.prs) (by rw [hl1]; exact h2) hr.more e0 (ho.on (fun _ => h0)) hR.1 (hR.2.1 e0).2 (fun _ => ⟨by omega, by rw [hl1]; exact hP⟩)
   generalize tyB cls nm r bs (id + a.cnt) (site + a.prs) env x.1 x.2 = y at hB
   obtain ⟨hB1, hB2⟩ := hB
   refine ⟨?_, ?_⟩
   ·rcases hB1 with ⟨f0, fy, T2, hT2, hT2l, hP2⟩ | ⟨f1, fy⟩
    ·left
     refine ⟨f0, fy, T' ++ T2, by rw [hT2]; simp, by simp [hT'l, hT2l, cntL], ?_⟩
     intro j t hj
     cases j with
     | zero =>
      simp only [List.getElem?_cons_zero, Option.some.injEq] at hj
      subst hj
      simp only [partsL, List.getD_cons_zero]
      rw [show ((T.length + a.cnt : Nat) : Int) - 1 = ((T.length + a.cnt - 1 : Nat) : Int) from by omega, ← List.append_assoc]
      refine known_some ?_
      rw [List.getElem?_append_left (by omega)]; exact hP
     | succ j =>
      simp only [List.getElem?_cons_succ] at hj
      simp only [partsL, List.getD_cons_succ]
      have := hP2 j t hj
      rw [hl1] at this
      rw [← List.append_assoc]; exact this
    ·exact Or.inr ⟨f1, fy⟩
   ·intro f0 t ht
    rcases List.mem_cons.1 ht with rfl | ht
    ·exact (hR.2.1 e0).2
    ·exact hB2 f0 t ht
  ·have hne : (ckRun T na).1.1 ≠ 0 := by rw [hy]; exact e1
   rw [if_pos hne]
   have hs := tyB_stay cls nm r bs (id + a.cnt) (site + a.prs) env x.1 x.2 e1
   generalize tyB cls nm r bs (id + a.cnt) (site + a.prs) env x.1 x.2 = y at hs
   refine ⟨Or.inr ⟨?_, ?_⟩, ?_⟩
   ·rw [hs.1]; exact e1
   ·rw [hy, hs.1, hs.2]
   ·intro f0; rw [hs.1] at f0; exact absurd f0 e1
end
end Go.Proofs.YtpicaknklgccoaaGreatDoor
