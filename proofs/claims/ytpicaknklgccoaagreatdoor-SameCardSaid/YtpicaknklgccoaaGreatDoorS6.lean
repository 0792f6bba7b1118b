import Derived.Test.YtpicaknklgccoaaGreatDoorS3
namespace Go.Proofs.YtpicaknklgccoaaGreatDoor
open Go.RowKit
theorem Tryz.oB : (Tryz.prog.info? 3).map (fun i => (i.zero, i.size, i.bytes)) = some (some (.int .i64 0), 1, 8) := by kernel_rfl
theorem Tryz.oD : Tryz.prog.underlying 42 = some (.slice 3) := by kernel_rfl
inductive qx | name | region | e | body
 deriving DecidableEq
def qx.wt : qx -> Wt
 | .name => .name
 | .region => .region
 | .e => .e
 | .body => .e
def qy (k : Kw) (ae : Bool) : List qx :=
 match k, ae with
 | .bb, _ => [.name, .e, .body]
 | .loop, _ => [.e, .name, .e, .body]
 | .pair, true => [.region, .e, .e]
 | .new, _ => [.region, .e]
 | .pair, false => [.e, .e]
 | .add, _ => [.e, .e]
 | .sub, _ => [.e, .e]
 | .less, _ => [.e, .e]
 | .fst, _ => [.e]
 | .snd, _ => [.e]
 | .fH, _ => [.e, .e, .e]
theorem mG (k : Kw) (ae : Bool) (h : bS k ae ≠ []) : bS k ae = (qy k ae).map qx.wt ++ [.close] := by
 cases k <;> cases ae <;> first | rfl | exact absurd rfl h
def Ns : List qx -> Bool
 | [] => true
 | .name :: is => !is.contains .name && is.head? != some .body && Ns is
 | .region :: is => !is.contains .region && is.head? != some .body && Ns is
 | .body :: is => !is.contains .name && Ns is
 | .e :: is => Ns is
theorem F5 (k : Kw) (ae : Bool) : Ns (qy k ae) = true := by cases k <;> cases ae <;> decide
structure FS where
 parts : List Int
 word : List UInt8
 region : Int
def gp (len : Nat) (pE : PS -> Int × PS) : List qx -> FS -> PS -> FS × PS
 | [], fs, st => (fs, st)
 | .name :: is, fs, st => gp len pE is { fs with word := (eM len st.l).word } (st.expect len 4)
 | .region :: is, fs, st => gp len pE is { fs with region := (eM len st.l).num } (st.expect len 6)
 | .e :: is, fs, st => gp len pE is { fs with parts := fs.parts ++ [(pE st).1] } (pE st).2
 | .body :: is, fs, st => gp len pE is { fs with parts := fs.parts ++ [(eO pE fs.word (fs.parts.getLastD (-1)) st).1] } (eO pE fs.word (fs.parts.getLastD (-1)) st).2
def aU (k : Kw) : Nat := cG (bE (.kw k))
def NR.filled (n : NR) (fs : FS) : NR := { n with word := fs.word, region := fs.region, p0 := fs.parts.getD 0 (-1), p1 := fs.parts.getD 1 (-1), p2 := fs.parts.getD 2 (-1) }
theorem sR (ae : Bool) (len : Nat) (pE : PS -> Int × PS) (k : Kw) (hk : bS k ae ≠ []) (at_ aO : Nat) (num : Int) (st : PS) :
  nF ae len pE ⟨aU k, at_, aO, num, [], 0, -1, -1, -1, -1⟩ st =
   (NR.filled ⟨aU k, at_, aO, num, [], 0, -1, -1, -1, -1⟩ (gp len pE (qy k ae) ⟨[], [], 0⟩ st).1, (gp len pE (qy k ae) ⟨[], [], 0⟩ st).2) := by
 cases k <;> cases ae <;> first | rfl | exact absurd rfl hk
def ay : List PT -> Nat -> List Int
 | [], _ => []
 | t :: r, base => (((base + t.cnt : Nat) : Int) - 1) :: ay r (base + t.cnt)
mutual
def opn : PT -> Nat -> List Int
 | .num _ _, base => [(base : Int)]
 | .name _ _, base => [(base : Int)]
 | .node _ _ _ _ kids, base => ((base + aB kids : Nat) : Int) :: lW kids base
def lW : List PT -> Nat -> List Int
 | [], _ => []
 | t :: r, base => opn t base ++ lW r (base + t.cnt)
end
def ue : List qx -> List Bool
 | [] => []
 | .name :: is => ue is
 | .region :: is => ue is
 | .e :: is => false :: ue is
 | .body :: is => true :: ue is
def bX : Kw -> List Bool
 | .bb => [false, true]
 | .loop => [false, false, true]
 | .pair => [false, false]
 | .new => [false]
 | .add => [false, false]
 | .sub => [false, false]
 | .less => [false, false]
 | .fst => [false]
 | .snd => [false]
 | .fH => [false, false, false]
theorem PO (k : Kw) (ae : Bool) : ue (qy k ae) = bX k := by cases k <;> cases ae <;> rfl
abbrev Sc := List (List UInt8 × Int)
mutual
def NA (scope : Sc) : PT -> Nat -> List NR -> Prop
 | .num p s, _, ns => ns = [⟨1, p, p + s.length, au s, [], 0, -1, -1, -1, -1⟩]
 | .name p s, _, ns => ns = [⟨2, p, p + s.length, 0, s, 0, bL scope s, -1, -1, -1⟩]
 | .node p k nm rg kids, base, ns => ∃ ks aO, cR scope nm kids (bX k) base ks /\
   ns = ks ++ [⟨aU k, p, aO, 0, nm, au rg, -1, (ay kids base).getD 0 (-1), (ay kids base).getD 1 (-1), (ay kids base).getD 2 (-1)⟩]
def cR (scope : Sc) (nm : List UInt8) : List PT -> List Bool -> Nat -> List NR -> Prop
 | [], bs, _, ns => bs = [] /\ ns = []
 | _ :: _, [], _, _ => False
 | t :: r, b :: bs, base, ns => ∃ a c, NA (if b then scope ++ [(nm, (base : Int) - 1)] else scope) t base a /\ cR scope nm r bs (base + t.cnt) c /\ ns = a ++ c
end
mutual
theorem NA.len : ∀ {scope : Sc} {t : PT} {base : Nat} {ns : List NR}, NA scope t base ns -> ns.length = t.cnt
 | _, .num _ _, _, _, h => by simp only [NA] at h; subst h; rfl
 | _, .name _ _, _, _, h => by simp only [NA] at h; subst h; rfl
 | _, .node _ _ _ _ kids, _, _, h => by
  simp only [NA] at h
  obtain ⟨ks, aO, h1, rfl⟩ := h
  have := cR.len h1
  simp only [List.length_append, List.length_cons, List.length_nil, PT.cnt, this]; omega
theorem cR.len : ∀ {scope : Sc} {nm : List UInt8} {ts : List PT} {bs : List Bool} {base : Nat} {ns : List NR}, cR scope nm ts bs base ns -> ns.length = aB ts
 | _, _, [], _, _, _, h => by simp only [cR] at h; simp [h.2, aB]
 | _, _, _ :: _, [], _, _, h => by simp [cR] at h
 | _, _, t :: r, b :: bs, _, _, h => by
  simp only [cR] at h
  obtain ⟨a, c, h1, h2, rfl⟩ := h
  have := NA.len h1
  have := cR.len h2
  simp only [List.length_append, aB]; omega
end
mutual
theorem FI : ∀ (t : PT) (base : Nat), (opn t base).length = t.cnt
 | .num _ _, _ => rfl
 | .name _ _, _ => rfl
 | .node _ _ _ _ kids, base => by have := Dp kids base; simp only [opn, List.length_cons, PT.cnt, this]; omega
theorem Dp : ∀ (ts : List PT) (base : Nat), (lW ts base).length = aB ts
 | [], _ => rfl
 | t :: r, base => by have := FI t base; have := Dp r (base + t.cnt); simp only [lW, List.length_append, aB]; omega
end
theorem dI (t : PT) : 0 < t.cnt := by cases t <;> simp [PT.cnt]; omega
def La (ae : Bool) (pE : PS -> Int × PS) (m : Nat) : Prop := ∀ (l : List Tk) (e : PT) (r : List Tk), PE ae l e r -> l.length <= m -> ∀ st : PS, st.l = l -> st.fl = none ->
 ∃ ns, NA st.scope e st.nodes.length ns /\ pE st = (((st.nodes.length + e.cnt : Nat) : Int) - 1, { st with l := r, nodes := st.nodes ++ ns, opened := st.opened ++ opn e st.nodes.length })
def NoE (ae : Bool) (len : Nat) (pE : PS -> Int × PS) (m : Nat) : Prop := ∀ l : List Tk, l.length <= m -> (¬ ∃ e r, PE ae l e r) -> ∀ st : PS, st.l = l -> st.fl = none ->
 ∃ q, (∀ p, bK ae len l (.e :: p) = some q) /\ (pE st).2.stuck q
theorem wE {ae : Bool} {pE : PS -> Int × PS} {m : Nat} (hY : La ae pE m) (w : List UInt8) (src : Int) {l : List Tk} {e : PT} {r : List Tk} (h : PE ae l e r) (hm : l.length <= m) (st : PS) (hl : st.l = l) (hf : st.fl = none) :
  ∃ ns, NA (st.scope ++ [(w, src)]) e st.nodes.length ns /\ eO pE w src st = (((st.nodes.length + e.cnt : Nat) : Int) - 1, { st with l := r, nodes := st.nodes ++ ns, opened := st.opened ++ opn e st.nodes.length }) := by
 obtain ⟨ns, h1, h2⟩ := hY l e r h hm { st with scope := st.scope ++ [(w, src)] } hl hf
 refine ⟨ns, h1, ?_⟩
 unfold eO
 simp only [h2, List.dropLast_concat]
theorem F4 {ae : Bool} (len : Nat) {pE : PS -> Int × PS} {m : Nat} (hY : La ae pE m) : ∀ (is : List qx) (l : List Tk) (nm rg : List UInt8) (kids : List PT) (r : List Tk), PW ae (is.map qx.wt ++ [.close]) l nm rg kids r -> Ns is = true ->
  l.length <= m -> ∀ (st : PS) (fs : FS) (GQ : List UInt8), st.l = l -> st.fl = none -> (is.head? = some .body -> fs.parts.getLastD (-1) = (st.nodes.length : Int) - 1) -> (if is.contains .name then nm else fs.word) = GQ ->
  ∃ t ns, t.c = .cls /\ cR st.scope GQ kids (ue is) st.nodes.length ns /\
   gp len pE is fs st = (⟨fs.parts ++ ay kids st.nodes.length, GQ, if is.contains .region then au rg else fs.region⟩, { st with l := t :: r, nodes := st.nodes ++ ns, opened := st.opened ++ lW kids st.nodes.length }) := by
 intro is
 induction is with
 | nil =>
  intro l nm rg kids r h _ hm st fs GQ hl hf _ hw
  simp only [List.map_nil, List.nil_append] at h
  cases h with
  | close hc h1 =>
   cases h1
   refine ⟨_, [], hc, ⟨rfl, rfl⟩, ?_⟩
   simp only [gp, ay, lW, List.append_nil]
   simp at hw
   rw [<- hl, <- hw]; rfl
 | cons i is ih =>
  intro l nm rg kids r h hwf hm st fs GQ hl hf hlast hw
  cases i with
  | name =>
   simp only [List.map_cons, qx.wt, List.cons_append] at h
   simp only [Ns, Bool.and_eq_true, Bool.not_eq_true'] at hwf
   obtain ⟨⟨hw1, hw2⟩, hw3⟩ := hwf
   cases h with
   | name hc h1 =>
    rename_i t r1 X3
    simp only [List.length_cons] at hm
    have hk : (eM len st.l).kind = 4 := by rw [hl]; exact (lU _).2 hc
    have hex : st.expect len 4 = { st with l := r1 } := by
     unfold PS.expect; rw [if_neg (by simp [hk])]; simp [PS.tail, hl]
    have hword : (eM len st.l).word = t.s := by rw [hl]; simp [eM, gA, tG, hc]
    have hw' : (if is.contains .name then X3 else t.s) = GQ := by
     rw [hw1]; simpa using hw
    obtain ⟨t', ns, h2, h3, h4⟩ := ih r1 X3 rg kids r h1 hw3 (by omega) { st with l := r1 } { fs with word := t.s } GQ rfl hf (fun e => by rw [e] at hw2; simp at hw2) hw'
    refine ⟨t', ns, h2, h3, ?_⟩
    simp only [gp]
    rw [hex, hword, h4]
    simp
  | region =>
   simp only [List.map_cons, qx.wt, List.cons_append] at h
   simp only [Ns, Bool.and_eq_true, Bool.not_eq_true'] at hwf
   obtain ⟨⟨hw1, hw2⟩, hw3⟩ := hwf
   cases h with
   | region hc h1 =>
    rename_i t r1 ZH
    simp only [List.length_cons] at hm
    have hk : (eM len st.l).kind = 6 := by rw [hl]; exact (ow _).2 hc
    have hex : st.expect len 6 = { st with l := r1 } := by
     unfold PS.expect; rw [if_neg (by simp [hk])]; simp [PS.tail, hl]
    have oV : (eM len st.l).num = au t.s := by rw [hl]; simp [eM, gA, Bg, hc]
    have hw' : (if is.contains .name then nm else fs.word) = GQ := by simpa using hw
    obtain ⟨t', ns, h2, h3, h4⟩ := ih r1 nm ZH kids r h1 hw3 (by omega) { st with l := r1 } { fs with region := au t.s } GQ rfl hf (fun e => by rw [e] at hw2; simp at hw2) hw'
    refine ⟨t', ns, h2, h3, ?_⟩
    simp only [gp]
    rw [hex, oV, h4, hw1]
    simp
  | e =>
   simp only [List.map_cons, qx.wt, List.cons_append] at h
   simp only [Ns] at hwf
   cases h with
   | e he h1 =>
    rename_i e r1 wD
    have hlt := he.len
    obtain ⟨OU, eC, gu⟩ := hY l e r1 he hm st hl hf
    have hw' : (if is.contains .name then nm else fs.word) = GQ := by simpa using hw
    have hlen := eC.len
    obtain ⟨t', ns, h2, h3, h4⟩ := ih r1 nm rg wD r h1 hwf (by omega) (pE st).2 { fs with parts := fs.parts ++ [(pE st).1] } GQ (by rw [gu]) (by rw [gu]; exact hf)
     (fun _ => by rw [gu]; simp [hlen]) hw'
    refine ⟨t', OU ++ ns, h2, ?_, ?_⟩
    ·rw [gu] at h3
     simp only [ue, cR]
     simp only [List.length_append, hlen] at h3
     exact ⟨OU, ns, eC, h3, rfl⟩
    ·simp only [gp]
     rw [h4, gu]
     simp [ay, lW, hlen]
  | body =>
   simp only [List.map_cons, qx.wt, List.cons_append] at h
   simp only [Ns, Bool.and_eq_true, Bool.not_eq_true'] at hwf
   cases h with
   | e he h1 =>
    rename_i e r1 wD
    have hlt := he.len
    have hw0 : fs.word = GQ := by
     have : (qx.body :: is).contains .name = false := by simpa using hwf.1
     rw [this] at hw; simpa using hw
    have hla := hlast rfl
    obtain ⟨OU, eC, gu⟩ := wE hY fs.word (fs.parts.getLastD (-1)) he hm st hl hf
    have hw' : (if is.contains .name then nm else fs.word) = GQ := by rw [hwf.1]; simpa using hw0
    have hlen := eC.len
    obtain ⟨t', ns, h2, h3, h4⟩ := ih r1 nm rg wD r h1 hwf.2 (by omega) (eO pE fs.word (fs.parts.getLastD (-1)) st).2 { fs with parts := fs.parts ++ [(eO pE fs.word (fs.parts.getLastD (-1)) st).1] } GQ (by rw [gu]) (by rw [gu]; exact hf)
     (fun _ => by rw [gu]; simp [hlen]) hw'
    refine ⟨t', OU ++ ns, h2, ?_, ?_⟩
    ·rw [gu] at h3
     simp only [ue, cR]
     simp only [List.length_append, hlen] at h3
     rw [hw0, hla] at eC
     exact ⟨OU, ns, eC, h3, rfl⟩
    ·simp only [gp]
     rw [h4, gu]
     simp [ay, lW, hlen]
theorem kz {pE : PS -> Int × PS} (h : ve pE) (len : Nat) {q : Nat} : ∀ (is : List qx) (fs : FS) (st : PS), st.stuck q -> (gp len pE is fs st).2.stuck q := by
 intro is
 induction is with
 | nil => intro fs st hs; exact hs
 | cons i is ih =>
  intro fs st hs
  cases i with
  | name => exact ih _ _ (dH hs)
  | region => exact ih _ _ (dH hs)
  | e => exact ih _ _ (h q st hs)
  | body => exact ih _ _ (DL h _ _ hs)
theorem kA {len k : Nat} {st : PS} (hf : st.fl = none) (hk : (eM len st.l).kind ≠ k) : (st.expect len k).stuck (eM len st.l).at_ := by
 unfold PS.expect; rw [if_pos hk]
 exact kB hf
theorem Tv {ae : Bool} {len : Nat} {pE : PS -> Int × PS} {m : Nat} (hY : La ae pE m) (hN : NoE ae len pE m) (hK : ve pE) : ∀ (is : List qx) (l : List Tk), (¬ ∃ nm rg kids r, PW ae (is.map qx.wt ++ [.close]) l nm rg kids r) ->
  l.length <= m -> ∀ (st : PS) (fs : FS), st.l = l -> st.fl = none -> ∃ q, (∀ p, bK ae len l (is.map qx.wt ++ .close :: p) = some q) /\ ((gp len pE is fs st).2.expect len 3).stuck q := by
 intro is
 induction is with
 | nil =>
  intro l h hm st fs hl hf
  simp only [List.map_nil, List.nil_append, gp] at h ⊢
  cases l with
  | nil => exact ⟨len, fun p => rfl, by have := kA (len := len) (k := 3) hf (by rw [hl]; simp [eM]); rw [hl] at this; exact this⟩
  | cons t r =>
   by_cases hc : t.c = .cls
   ·exact absurd ⟨_, _, _, _, .close hc .nil⟩ h
   ·refine ⟨t.at_, fun p => by simp only [bK, if_neg hc], ?_⟩
    have := kA (len := len) (k := 3) hf (by rw [hl]; exact fun e => hc ((sB _).1 e))
    rw [hl] at this; exact this
 | cons i is ih =>
  intro l h hm st fs hl hf
  cases i with
  | name =>
   simp only [List.map_cons, qx.wt, List.cons_append] at h ⊢
   simp only [gp]
   cases l with
   | nil =>
    refine ⟨len, fun p => rfl, ?_⟩
    have := kA (len := len) (k := 4) hf (by rw [hl]; simp [eM])
    rw [hl] at this
    exact dH (kz hK len is _ _ this)
   | cons t r =>
    by_cases hc : t.c = .xP
    ·have hk : (eM len st.l).kind = 4 := by rw [hl]; exact (lU _).2 hc
     have hex : st.expect len 4 = { st with l := r } := by
      unfold PS.expect; rw [if_neg (by simp [hk])]; simp [PS.tail, hl]
     rw [hex]
     obtain ⟨q, h1, h2⟩ := ih r (fun ⟨nm, rg, kids, r', hp⟩ => h ⟨_, _, _, _, .name hc hp⟩) (by simp at hm; omega) { st with l := r } { fs with word := (eM len st.l).word } rfl hf
     exact ⟨q, fun p => by simp only [bK, if_pos hc]; exact h1 p, h2⟩
    ·refine ⟨t.at_, fun p => by simp only [bK, if_neg hc], ?_⟩
     have := kA (len := len) (k := 4) hf (by rw [hl]; exact fun e => hc ((lU _).1 e))
     rw [hl] at this
     exact dH (kz hK len is _ _ this)
  | region =>
   simp only [List.map_cons, qx.wt, List.cons_append] at h ⊢
   simp only [gp]
   cases l with
   | nil =>
    refine ⟨len, fun p => rfl, ?_⟩
    have := kA (len := len) (k := 6) hf (by rw [hl]; simp [eM])
    rw [hl] at this
    exact dH (kz hK len is _ _ this)
   | cons t r =>
    by_cases hc : t.c = .Ft
    ·have hk : (eM len st.l).kind = 6 := by rw [hl]; exact (ow _).2 hc
     have hex : st.expect len 6 = { st with l := r } := by
      unfold PS.expect; rw [if_neg (by simp [hk])]; simp [PS.tail, hl]
     rw [hex]
     obtain ⟨q, h1, h2⟩ := ih r (fun ⟨nm, rg, kids, r', hp⟩ => h ⟨_, _, _, _, .region hc hp⟩) (by simp at hm; omega) { st with l := r } { fs with region := (eM len st.l).num } rfl hf
     exact ⟨q, fun p => by simp only [bK, if_pos hc]; exact h1 p, h2⟩
    ·refine ⟨t.at_, fun p => by simp only [bK, if_neg hc], ?_⟩
     have := kA (len := len) (k := 6) hf (by rw [hl]; exact fun e => hc ((ow _).1 e))
     rw [hl] at this
     exact dH (kz hK len is _ _ this)
  | e =>
   simp only [List.map_cons, qx.wt, List.cons_append] at h ⊢
   simp only [gp]
   by_cases he : ∃ e r, PE ae l e r
   ·obtain ⟨e, r, he⟩ := he
    obtain ⟨OU, eC, gu⟩ := hY l e r he hm st hl hf
    have hlt := he.len
    obtain ⟨q, h1, h2⟩ := ih r (fun ⟨nm, rg, kids, r', hp⟩ => h ⟨_, _, _, _, .e he hp⟩) (by omega) (pE st).2 { fs with parts := fs.parts ++ [(pE st).1] } (by rw [gu]) (by rw [gu]; exact hf)
    exact ⟨q, fun p => by rw [he.sound]; exact h1 p, h2⟩
   ·obtain ⟨q, h1, h2⟩ := hN l hm he st hl hf
    exact ⟨q, fun p => h1 _, dH (kz hK len is _ _ h2)⟩
  | body =>
   simp only [List.map_cons, qx.wt, List.cons_append] at h ⊢
   simp only [gp]
   by_cases he : ∃ e r, PE ae l e r
   ·obtain ⟨e, r, he⟩ := he
    obtain ⟨OU, eC, gu⟩ := wE hY fs.word (fs.parts.getLastD (-1)) he hm st hl hf
    have hlt := he.len
    obtain ⟨q, h1, h2⟩ := ih r (fun ⟨nm, rg, kids, r', hp⟩ => h ⟨_, _, _, _, .e he hp⟩) (by omega) (eO pE fs.word (fs.parts.getLastD (-1)) st).2 { fs with parts := fs.parts ++ [(eO pE fs.word (fs.parts.getLastD (-1)) st).1] } (by rw [gu]) (by rw [gu]; exact hf)
    exact ⟨q, fun p => by rw [he.sound]; exact h1 p, h2⟩
   ·obtain ⟨q, h1, h2⟩ := hN l hm he { st with scope := st.scope ++ [(fs.word, fs.parts.getLastD (-1))] } hl hf
    exact ⟨q, fun p => h1 _, dH (kz hK len is _ _ h2)⟩
theorem PQ (len : Nat) (pB : NR -> PS -> Int × PS) (st : PS) {t : Tk} {r : List Tk} (hl : st.l = t :: r) (hc : t.c = .num) :
  gT len pB st = ((st.nodes.length : Int), { st with l := r, nodes := st.nodes ++ [⟨1, t.at_, t.at_ + t.s.length, au t.s, [], 0, -1, -1, -1, -1⟩] }) := by
 simp [gT, hl, eM, gA, hc, bE, Bg, PS.tail, PS.add, iP]
theorem MP (len : Nat) (pB : NR -> PS -> Int × PS) (st : PS) {t : Tk} {r : List Tk} (hl : st.l = t :: r) (hc : t.c = .xP) :
  gT len pB st = ((st.nodes.length : Int), { st with l := r, nodes := st.nodes ++ [⟨2, t.at_, t.at_ + t.s.length, 0, t.s, 0, bL st.scope t.s, -1, -1, -1⟩] }) := by
 simp [gT, hl, eM, gA, hc, bE, tG, PS.tail, PS.add, iP]
theorem wG (len : Nat) (pB : NR -> PS -> Int × PS) (st : PS) {t : Tk} {r : List Tk} (hl : st.l = t :: r) (hc : t.c = .opn) :
  gT len pB st = pB ⟨0, t.at_, t.at_ + t.s.length, 0, [], 0, -1, -1, -1, -1⟩ { st with l := r } := by
 simp [gT, hl, eM, gA, hc, bE, PS.tail, iP]
theorem PR (len : Nat) (pB : NR -> PS -> Int × PS) (st : PS) {t : Tk} {r : List Tk} (hl : st.l = t :: r) (h1 : t.c ≠ .num) (h2 : t.c ≠ .xP) (h3 : t.c ≠ .opn) (hf : st.fl = none) : (gT len pB st).2.stuck t.at_ := by
 have e1 : ¬ bE t.c = 5 := fun h => h1 ((G7 _).1 h)
 have e2 : ¬ bE t.c = 4 := fun h => h2 ((lU _).1 h)
 have e3 : ¬ bE t.c = 2 := fun h => h3 ((G8 _).1 h)
 unfold gT
 simp only [hl, eM, gA, if_neg e1, if_neg e2, if_neg e3]
 exact kB hf
theorem GS (len : Nat) (pB : NR -> PS -> Int × PS) (st : PS) (hl : st.l = []) (hf : st.fl = none) : (gT len pB st).2.stuck len := by
 unfold gT
 simp only [hl, eM]
 exact kB hf
theorem xH (o X : List Int) (i : Int) : (o ++ [-1] ++ X).set o.length i = o ++ i :: X := by
 rw [List.append_assoc, List.set_append_right _ _ (Nat.le_refl _)]; simp
theorem mF (c : Cl) (ae : Bool) : (cG (bE c) = 0 \/ (cG (bE c) = 12 /\ ae = false)) ↔ sA c ae = [] := by
 cases c with
 | kw k => cases k <;> cases ae <;> decide
 | _ => cases ae <;> decide
theorem yR (k : Kw) (ae : Bool) : (qy k ae).head? ≠ some .body := by cases k <;> cases ae <;> decide
theorem PW.wF {ae : Bool} : ∀ {ws : List Wt} {l : List Tk} {nm rg : List UInt8} {kids : List PT} {r : List Tk}, PW ae ws l nm rg kids r -> Wt.name ∉ ws -> nm = []
 | _, _, _, _, _, _, .nil, _ => rfl
 | _, _, _, _, _, _, .close _ h1, hn => PW.wF h1 (fun h => hn (List.mem_cons_of_mem _ h))
 | _, _, _, _, _, _, .name _ _, hn => absurd List.mem_cons_self hn
 | _, _, _, _, _, _, .region _ h1, hn => PW.wF h1 (fun h => hn (List.mem_cons_of_mem _ h))
 | _, _, _, _, _, _, .e _ h1, hn => PW.wF h1 (fun h => hn (List.mem_cons_of_mem _ h))
theorem PW.si {ae : Bool} : ∀ {ws : List Wt} {l : List Tk} {nm rg : List UInt8} {kids : List PT} {r : List Tk}, PW ae ws l nm rg kids r -> Wt.region ∉ ws -> rg = []
 | _, _, _, _, _, _, .nil, _ => rfl
 | _, _, _, _, _, _, .close _ h1, hn => PW.si h1 (fun h => hn (List.mem_cons_of_mem _ h))
 | _, _, _, _, _, _, .region _ _, hn => absurd List.mem_cons_self hn
 | _, _, _, _, _, _, .name _ h1, hn => PW.si h1 (fun h => hn (List.mem_cons_of_mem _ h))
 | _, _, _, _, _, _, .e _ h1, hn => PW.si h1 (fun h => hn (List.mem_cons_of_mem _ h))
theorem nZ (ae : Bool) (len : Nat) : ∀ n : Nat, La ae (eQ ae len n) n /\ NoE ae len (eQ ae len n) n := by
 intro n
 induction n with
 | zero =>
  constructor
  ·intro l e r h hm
   obtain ⟨t, r', he, _⟩ := h.suffix
   rw [he] at hm; simp at hm
  ·intro l hm _ st hl hf
   have O4 : l = [] := List.length_eq_zero_iff.1 (by omega)
   subst O4
   refine ⟨len, fun p => rfl, ?_⟩
   unfold eQ gU
   exact GS len _ { st with opened := st.opened ++ [-1] } hl hf
 | succ m ih =>
  constructor
  ·intro l e r h hm st hl hf
   cases h with
   | num hc =>
    rename_i t
    refine ⟨_, rfl, ?_⟩
    unfold eQ gU
    rw [PQ len _ { st with opened := st.opened ++ [-1] } hl hc]
    have := xH st.opened [] (st.nodes.length : Int)
    simp only [List.append_nil] at this
    simp only [this, opn, PT.cnt]
    congr 1
    omega
   | name hc =>
    rename_i t
    refine ⟨_, rfl, ?_⟩
    unfold eQ gU
    rw [MP len _ { st with opened := st.opened ++ [-1] } hl hc]
    have := xH st.opened [] (st.nodes.length : Int)
    simp only [List.append_nil] at this
    simp only [this, opn, PT.cnt]
    congr 1
    omega
   | node hc hk hw h4 =>
    rename_i t u k r0 nm rg kids
    have DZ : ¬ (cG (bE u.c) = 0 \/ (cG (bE u.c) = 12 /\ ae = false)) := by
     rw [mF, hk]; exact hw
    rw [mG k ae hw] at h4
    simp only [List.length_cons] at hm
    obtain ⟨c, ns, h1, h2, h3⟩ := F4 len ih.1 (qy k ae) r0 nm rg kids r h4 (F5 k ae) (by omega)
     { st with opened := st.opened ++ [-1], l := r0 } ⟨[], [], 0⟩ nm rfl hf (fun e => absurd e (yR k ae)) (by
      split
      ·rfl
      ·rename_i hn
       have : Wt.name ∉ (qy k ae).map qx.wt ++ [.close] := by
        intro hh
        rcases List.mem_append.1 hh with hh | hh
        ·obtain ⟨i, hi, e⟩ := List.mem_map.1 hh
         cases i with
         | name => exact hn (by simpa using hi)
         | _ => cases e
        ·simp at hh
       exact (PW.wF h4 this).symm)
    rw [PO] at h2
    have hlen := h2.len
    have hrg : (if (qy k ae).contains .region then au rg else 0) = au rg := by
     split
     ·rfl
     ·rename_i hn
      have : Wt.region ∉ (qy k ae).map qx.wt ++ [.close] := by
       intro hh
       rcases List.mem_append.1 hh with hh | hh
       ·obtain ⟨i, hi, e⟩ := List.mem_map.1 hh
        cases i with
        | region => exact hn (by simpa using hi)
        | _ => cases e
       ·simp at hh
      rw [PW.si h4 this]; rfl
    rw [hrg] at h3
    refine ⟨ns ++ [⟨aU k, t.at_, c.at_ + c.s.length, 0, nm, au rg, -1, (ay kids st.nodes.length).getD 0 (-1), (ay kids st.nodes.length).getD 1 (-1), (ay kids st.nodes.length).getD 2 (-1)⟩], ⟨ns, _, h2, rfl⟩, ?_⟩
    unfold eQ gU
    rw [wG len _ { st with opened := st.opened ++ [-1] } hl hc]
    unfold gj
    have htk : eM len (u :: r0) = gA u := rfl
    simp only [htk]
    rw [if_neg (by simpa [gA] using DZ)]
    have hform : cG (gA u).kind = aU k := by simp [gA, hk, aU]
    rw [hform, sR ae len _ k hw]
    simp only [PS.tail, List.tail_cons]
    rw [h3]
    have hkc : (eM len (c :: r)).kind = 3 := (sB _).2 h1
    simp only [PS.expect, hkc]
    rw [if_neg (by simp)]
    simp only [PS.tail, List.tail_cons, PS.add, NR.filled, List.nil_append, eM, gA, opn, PT.cnt]
    have := xH st.opened (lW kids st.nodes.length) ((st.nodes ++ ns).length : Int)
    rw [this]
    simp only [List.length_append, hlen, List.append_assoc]
    congr 1
    omega
  ·intro l hm hn st hl hf
   cases l with
   | nil =>
    refine ⟨len, fun p => rfl, ?_⟩
    unfold eQ gU
    exact GS len _ { st with opened := st.opened ++ [-1] } hl hf
   | cons t r =>
    by_cases h1 : t.c = .num
    ·exact absurd ⟨_, _, .num h1⟩ hn
    by_cases h2 : t.c = .xP
    ·exact absurd ⟨_, _, .name h2⟩ hn
    by_cases h3 : t.c = .opn
    ·simp only [List.length_cons] at hm
     unfold eQ gU
     rw [wG len _ { st with opened := st.opened ++ [-1] } hl h3]
     unfold gj
     cases r with
     | nil =>
      refine ⟨len, fun p => by simp [bK, h3], ?_⟩
      simp only [eM, cG]
      exact kB hf
     | cons u r0 =>
      have htk : eM len (u :: r0) = gA u := rfl
      simp only [htk]
      by_cases hw : sA u.c ae = []
      ·have := (mF u.c ae).2 hw
       refine ⟨u.at_, fun p => by simp [bK, h3, hw], ?_⟩
       rw [if_pos (by simpa [gA] using this)]
       exact kB hf
      ·have DZ : ¬ (cG (bE u.c) = 0 \/ (cG (bE u.c) = 12 /\ ae = false)) := fun h => hw ((mF u.c ae).1 h)
       rw [if_neg (by simpa [gA] using DZ)]
       cases hu : u.c with
       | kw k =>
        rw [hu] at hw
        have hw' : bS k ae ≠ [] := hw
        have hform : cG (gA u).kind = aU k := by simp [gA, hu, aU]
        rw [hform, sR ae len _ k hw']
        simp only [PS.tail, List.tail_cons]
        simp only [List.length_cons] at hm
        obtain ⟨q, hq1, M6⟩ := Tv (len := len) ih.1 ih.2 (DK ae len m) (qy k ae) r0 (fun ⟨nm, rg, kids, r', hp⟩ => hn ⟨_, _, .node h3 hu hw' (by rw [mG k ae hw']; exact hp)⟩) (by omega)
         { st with opened := st.opened ++ [-1], l := r0 } ⟨[], [], 0⟩ rfl hf
        refine ⟨q, fun p => ?_, M6⟩
        have := hq1 p
        simp only [bK, h3, hu, sA]
        rw [if_neg hw', mG k ae hw']
        simpa using this
       | _ => rw [hu] at hw; exact absurd rfl hw
    ·refine ⟨t.at_, fun p => ?_, ?_⟩
     ·simp only [bK]
     ·unfold eQ gU
      exact PR len _ { st with opened := st.opened ++ [-1] } hl h1 h2 h3 hf
def ps0 (l : List Tk) : PS := ⟨l, none, [], [], []⟩
def jt (ae : Bool) (len : Nat) (l : List Tk) : PS := (eQ ae len l.length (ps0 l)).2.expect len 0
theorem rP {ae : Bool} {len : Nat} {l : List Tk} {e : PT} (h : PE ae l e []) :
  ∃ ns, NA [] e 0 ns /\ jt ae len l = ⟨[], none, [], ns, opn e 0⟩ := by
 obtain ⟨ns, h1, h2⟩ := (nZ ae len l.length).1 l e [] h (Nat.le_refl _) (ps0 l) rfl rfl
 refine ⟨ns, h1, ?_⟩
 unfold jt
 rw [h2]
 simp [PS.expect, eM, PS.tail, ps0]
def ai (T : List Ty) (i : Int) : Ty := if 0 <= i then (T[i.toNat]?).getD .n else .n
def bZ (T : List Ty) (n : NR) : Ty × Nat :=
 if n.form = 2 then (if n.source = -1 then (.n, 4) else (ai T n.source, 0))
 else if n.form = 12 then (ai T n.p0, 0)
 else if n.form = 3 then (ai T n.p1, 0)
 else if n.form = 4 then (if 63 < (Ty.p 0 (ai T n.p0) (ai T n.p1)).size then (.n, 6) else (.p 0 (ai T n.p0) (ai T n.p1), 0))
 else if n.form = 5 then (match ai T n.p0 with
  | .n => (.n, 5)
  | .p _ x _ => (x, 0))
 else if n.form = 6 then (match ai T n.p0 with
  | .n => (.n, 5)
  | .p _ _ x => (x, 0))
 else if n.form = 7 \/ n.form = 11 then (ai T n.p1, if ai T n.p0 = .n /\ ai T n.p1 = ai T n.p2 then 0 else 5)
 else if n.form = 8 \/ n.form = 9 \/ n.form = 10 then (.n, if ai T n.p0 = .n /\ ai T n.p1 = .n then 0 else 5)
 else (.n, 0)
def fU : List Ty -> List NR -> (Nat × Nat) × List Ty
 | T, [] => ((0, 0), T)
 | T, n :: r => if (bZ T n).2 ≠ 0 then (((bZ T n).2, n.at_), T) else fU (T ++ [(bZ T n).1]) r
theorem mO : ∀ (a b : List NR) (T : List Ty), fU T (a ++ b) = if (fU T a).1.1 ≠ 0 then fU T a else fU (fU T a).2 b
 | [], b, T => by simp [fU]
 | n :: r, b, T => by
  simp only [List.cons_append, fU]
  by_cases h : (bZ T n).2 ≠ 0
  ·simp [h]
  ·simp only [if_neg h]; exact mO r b _
theorem Jn (t : Ty) : t.bare.size = t.size := by
 induction t with
 | n => rfl
 | p r a b bI dG => simp [Ty.bare, Ty.size, bI, dG]
theorem qN (t : Ty) : t.bare = .n ↔ t = .n := by cases t <;> simp [Ty.bare]
def di (T : List Ty) : aQ -> Sc -> Prop
 | [], [] => True
 | x :: e, y :: s => x.1 = y.1 /\ 0 <= y.2 /\ T[y.2.toNat]? = some x.2.bare /\ di T e s
 | _, _ => False
theorem di.app {T : List Ty} : ∀ {e e' : aQ} {s s' : Sc}, di T e s -> di T e' s' -> di T (e ++ e') (s ++ s')
 | [], _, [], _, _, h => h
 | _ :: _, _, _ :: _, _, h, h' => ⟨h.1, h.2.1, h.2.2.1, di.app h.2.2.2 h'⟩
 | [], _, _ :: _, _, h, _ => h.elim
 | _ :: _, _, [], _, h, _ => h.elim
theorem di.rev {T : List Ty} : ∀ {e : aQ} {s : Sc}, di T e s -> di T e.reverse s.reverse
 | [], [], _ => trivial
 | _ :: _, _ :: _, h => by
  rw [List.reverse_cons, List.reverse_cons]
  exact di.app (di.rev h.2.2.2) ⟨h.1, h.2.1, h.2.2.1, trivial⟩
 | [], _ :: _, h => h.elim
 | _ :: _, [], h => h.elim
theorem di.more {T T' : List Ty} : ∀ {e : aQ} {s : Sc}, di T e s -> di (T ++ T') e s
 | [], [], _ => trivial
 | _ :: _, _ :: _, h => ⟨h.1, h.2.1, by
   have h3 := h.2.2.1
   rw [List.getElem?_append_left (List.getElem?_eq_some_iff.1 h3).1]; exact h3, di.more h.2.2.2⟩
 | [], _ :: _, h => h.elim
 | _ :: _, [], h => h.elim
theorem di.find {T : List Ty} (w : List UInt8) : ∀ {e : aQ} {s : Sc}, di T e s ->
  (e.find? (fun x => x.1 == w) = none /\ s.find? (fun x => x.1 == w) = none) \/ (∃ x y, e.find? (fun x => x.1 == w) = some x /\ s.find? (fun x => x.1 == w) = some y /\ 0 <= y.2 /\ T[y.2.toNat]? = some x.2.bare)
 | [], [], _ => Or.inl ⟨rfl, rfl⟩
 | x :: _, y :: _, h => by
  rw [List.find?_cons, List.find?_cons, <- h.1]
  by_cases hw : (x.1 == w) = true
  ·rw [hw]; exact Or.inr ⟨x, y, rfl, rfl, h.2.1, h.2.2.1⟩
  ·have hw' : (x.1 == w) = false := by simpa using hw
   rw [hw']; exact di.find w h.2.2.2
 | [], _ :: _, h => h.elim
 | _ :: _, [], h => h.elim
theorem di.look {T : List Ty} {e : aQ} {s : Sc} (h : di T e s) (w : List UInt8) :
  (look e w = none /\ bL s w = -1) \/ (∃ t, look e w = some t /\ bL s w ≠ -1 /\ ai T (bL s w) = t.bare) := by
 rcases h.rev.find w with ⟨h1, h2⟩ | ⟨x, y, h1, h2, h3, h4⟩
 ·left; unfold Go.Proofs.YtpicaknklgccoaaGreatDoor.look bL; rw [h1, h2]; exact ⟨rfl, rfl⟩
 ·right
  refine ⟨x.2, ?_, ?_, ?_⟩
  ·unfold Go.Proofs.YtpicaknklgccoaaGreatDoor.look; rw [h1]; rfl
  ·unfold bL; rw [h2]; simp only; omega
  ·unfold bL ai; rw [h2]; simp only; rw [if_pos h3, h4]; rfl
theorem Jo (st : dD) (e p : Nat) (h : st.e ≠ 0) : cS st e p = st := by unfold cS; rw [if_neg h]
theorem mc (id p : Nat) (x : Ty × dD) (h : x.2.e ≠ 0) : (fin id p x).2.e = x.2.e /\ (fin id p x).2.at_ = x.2.at_ := by
 unfold fin; simp only; rw [if_neg (fun hh => h hh.1)]; exact ⟨rfl, rfl⟩
mutual
theorem cW (cls : List Nat) : ∀ (t : PT) (id site : Nat) (env : aQ) (st : dD), st.e ≠ 0 -> (aD cls t id site env st).2.e = st.e /\ (aD cls t id site env st).2.at_ = st.at_
 | .num p s, id, site, env, st, h => by simp only [aD]; exact mc _ _ _ h
 | .name p s, id, site, env, st, h => by
  simp only [aD]
  split
  ·exact mc _ _ _ h
  ·rw [Jo _ _ _ h]; exact mc _ _ _ h
 | .node p k nm rg kids, id, site, env, st, h => by
  simp only [aD]
  split
  ·have := Fo cls nm kids (id + 1) site env st h
   have h2 := mc id p (dx cls nm kids (id + 1) site env st) (by rw [this.1]; exact h)
   exact ⟨h2.1.trans this.1, h2.2.trans this.2⟩
  ·have hx : (if k = .loop then aT cls nm kids (id + 1) site env st else ba cls kids (id + 1) (site + if k = .pair then 1 else 0) env st).2.e = st.e /\ (if k = .loop then aT cls nm kids (id + 1) site env st else ba cls kids (id + 1) (site + if k = .pair then 1 else 0) env st).2.at_ = st.at_ := by
    by_cases hk : k = .loop
    ·simp only [if_pos hk]; exact Dq cls nm kids _ _ env st h
    ·simp only [if_neg hk]; exact nM cls kids _ _ env st h
   generalize (if k = .loop then aT cls nm kids (id + 1) site env st else ba cls kids (id + 1) (site + if k = .pair then 1 else 0) env st) = x at hx
   have hne : x.2.e ≠ 0 := by rw [hx.1]; exact h
   rw [if_pos hne]
   have h2 := mc id p (Ty.n, x.2) hne
   exact ⟨h2.1.trans hx.1, h2.2.trans hx.2⟩
theorem nM (cls : List Nat) : ∀ (ts : List PT) (id site : Nat) (env : aQ) (st : dD), st.e ≠ 0 -> (ba cls ts id site env st).2.e = st.e /\ (ba cls ts id site env st).2.at_ = st.at_
 | [], _, _, _, st, _ => by simp [ba]
 | a :: r, id, site, env, st, h => by
  simp only [ba]
  have h1 := cW cls a id site env st h
  have h2 := nM cls r (id + a.cnt) (site + a.bJ) env (aD cls a id site env st).2 (by rw [h1.1]; exact h)
  exact ⟨h2.1.trans h1.1, h2.2.trans h1.2⟩
theorem Fo (cls : List Nat) (nm : List UInt8) : ∀ (ts : List PT) (id site : Nat) (env : aQ) (st : dD), st.e ≠ 0 -> (dx cls nm ts id site env st).2.e = st.e /\ (dx cls nm ts id site env st).2.at_ = st.at_
 | [a, b], id, site, env, st, h => by
  simp only [dx]
  have h1 := cW cls a id site env st h
  have h2 := cW cls b (id + a.cnt) (site + a.bJ) (env ++ [(nm, (aD cls a id site env st).1)]) (aD cls a id site env st).2 (by rw [h1.1]; exact h)
  exact ⟨h2.1.trans h1.1, h2.2.trans h1.2⟩
 | [], _, _, _, st, _ => by simp [dx]
 | [_], _, _, _, st, _ => by simp [dx]
 | _ :: _ :: _ :: _, _, _, _, st, _ => by simp [dx]
theorem Dq (cls : List Nat) (nm : List UInt8) : ∀ (ts : List PT) (id site : Nat) (env : aQ) (st : dD), st.e ≠ 0 -> (aT cls nm ts id site env st).2.e = st.e /\ (aT cls nm ts id site env st).2.at_ = st.at_
 | [a, b, c], id, site, env, st, h => by
  simp only [aT]
  have h1 := cW cls a id site env st h
  have h2 := cW cls b (id + a.cnt) (site + a.bJ) env (aD cls a id site env st).2 (by rw [h1.1]; exact h)
  have h3 := cW cls c (id + a.cnt + b.cnt) (site + a.bJ + b.bJ) (env ++ [(nm, (aD cls b (id + a.cnt) (site + a.bJ) env (aD cls a id site env st).2).1)]) (aD cls b (id + a.cnt) (site + a.bJ) env (aD cls a id site env st).2).2 (by rw [h2.1, h1.1]; exact h)
  exact ⟨h3.1.trans (h2.1.trans h1.1), h3.2.trans (h2.2.trans h1.2)⟩
 | [], _, _, _, st, _ => by simp [aT]
 | [_], _, _, _, st, _ => by simp [aT]
 | [_, _], _, _, _, st, _ => by simp [aT]
 | _ :: _ :: _ :: _ :: _, _, _, _, st, _ => by simp [aT]
end
def mN (cls : List Nat) (nm : List UInt8) : List PT -> List Bool -> Nat -> Nat -> aQ -> Ty -> dD -> List Ty × dD
 | a :: r, b :: bs, id, site, env, prev, st =>
  let x := aD cls a id site (if b then env ++ [(nm, prev)] else env) st
  let y := mN cls nm r bs (id + a.cnt) (site + a.bJ) env x.1 x.2
  (x.1 :: y.1, y.2)
 | _, _, _, _, _, _, st => ([], st)
theorem Dr (cls : List Nat) (nm : List UInt8) : ∀ (ts : List PT) (bs : List Bool) (id site : Nat) (env : aQ) (prev : Ty) (st : dD), bs.length = ts.length -> (∀ b ∈ bs, b = false) -> mN cls nm ts bs id site env prev st = ba cls ts id site env st
 | [], [], _, _, _, _, _, _, _ => by simp [mN, ba]
 | a :: r, b :: bs, id, site, env, prev, st, h, hb => by
  have hb0 : b = false := hb b List.mem_cons_self
  subst hb0
  simp only [mN, ba, Bool.false_eq_true, if_false]
  rw [Dr cls nm r bs _ _ _ _ _ (by simpa using h) (fun b hb' => hb b (List.mem_cons_of_mem _ hb'))]
 | [], _ :: _, _, _, _, _, _, h, _ => by simp at h
 | _ :: _, [], _, _, _, _, _, h, _ => by simp at h
theorem AY (cls : List Nat) (nm : List UInt8) : ∀ (ts : List PT) (bs : List Bool) (id site : Nat) (env : aQ) (prev : Ty) (st : dD), bs.length = ts.length -> (mN cls nm ts bs id site env prev st).1.length = bs.length
 | [], [], _, _, _, _, _, _ => by simp [mN]
 | a :: r, b :: bs, id, site, env, prev, st, h => by
  simp only [mN, List.length_cons]
  rw [AY cls nm r bs _ _ _ _ _ (by simpa using h)]
 | [], _ :: _, _, _, _, _, _, h => by simp at h
 | _ :: _, [], _, _, _, _, _, h => by simp at h
theorem xx (cls : List Nat) (nm : List UInt8) : ∀ (ts : List PT) (bs : List Bool) (id site : Nat) (env : aQ) (prev : Ty) (st : dD), st.e ≠ 0 -> (mN cls nm ts bs id site env prev st).2.e = st.e /\ (mN cls nm ts bs id site env prev st).2.at_ = st.at_
 | a :: r, b :: bs, id, site, env, prev, st, h => by
  simp only [mN]
  have h1 := cW cls a id site (if b then env ++ [(nm, prev)] else env) st h
  have h2 := xx cls nm r bs (id + a.cnt) (site + a.bJ) env (aD cls a id site (if b then env ++ [(nm, prev)] else env) st).1 (aD cls a id site (if b then env ++ [(nm, prev)] else env) st).2 (by rw [h1.1]; exact h)
  exact ⟨h2.1.trans h1.1, h2.2.trans h1.2⟩
 | [], _, _, _, _, _, _, _ => by simp [mN]
 | _ :: _, [], _, _, _, _, _, _ => by simp [mN]
def Agree (T : List Ty) (n : Nat) (e at_ : Nat) (y : (Nat × Nat) × List Ty) (P : List Ty -> Prop) : Prop :=
 (e = 0 /\ y.1 = (0, 0) /\ ∃ T', y.2 = T ++ T' /\ T'.length = n /\ P (T ++ T')) \/ (e ≠ 0 /\ y.1 = (e, at_))
theorem qB {T : List Ty} {i : Nat} {t : Ty} (h : T[i]? = some t) : ai T (i : Int) = t := by
 unfold ai; rw [if_pos (by omega)]; simp [h]
theorem kY (id p : Nat) (x : Ty × dD) (h : x.1.size <= 63) : (fin id p x).1 = x.1 /\ (fin id p x).2.e = x.2.e /\ (fin id p x).2.at_ = x.2.at_ := by
 have hn : ¬ (x.2.e = 0 /\ 63 < x.1.size) := by omega
 simp only [fin, if_neg hn, and_self]
theorem MQ (id p : Nat) (x : Ty × dD) (h0 : x.2.e = 0) (h : 63 < x.1.size) : (fin id p x).2.e = 6 /\ (fin id p x).2.at_ = p := by
 unfold fin cS; simp only; rw [if_pos ⟨h0, h⟩, if_pos h0]; exact ⟨rfl, rfl⟩
def aN (cls : List Nat) (k : Kw) (p site : Nat) (ks : List Ty) (st : dD) : Ty × dD :=
 if k = .bb then (ks.getD 1 .n, st) else bB cls k p site ks st
theorem aau (st : dD) (p id : Nat) (h : st.e = 0) : (fin id p (Ty.n, cS st 5 p)).2.e = 5 /\ (fin id p (Ty.n, cS st 5 p)).2.at_ = p := by
 have h1 : (cS st 5 p).e = 5 /\ (cS st 5 p).at_ = p := by unfold cS; rw [if_pos h]; exact ⟨rfl, rfl⟩
 have := kY id p (Ty.n, cS st 5 p) (by simp [Ty.size])
 exact ⟨this.2.1.trans h1.1, this.2.2.trans h1.2⟩
theorem Jp (cls : List Nat) (k : Kw) (id p site : Nat) (ks : List Ty) (st : dD) (T : List Ty) (aO : Nat) (nm : List UInt8) (rg : Int) (p0 p1 p2 : Int) (hl : ks.length = (bX k).length) (h0 : st.e = 0) (hs : ∀ t ∈ ks, t.size <= 63)
  (k0 : ∀ t, ks[0]? = some t -> ai T p0 = t.bare) (k1 : ∀ t, ks[1]? = some t -> ai T p1 = t.bare) (k2 : ∀ t, ks[2]? = some t -> ai T p2 = t.bare) :
  ((fin id p (aN cls k p site ks st)).2.e = 0 /\ bZ T ⟨aU k, p, aO, 0, nm, rg, -1, p0, p1, p2⟩ = ((fin id p (aN cls k p site ks st)).1.bare, 0)) \/
  ((fin id p (aN cls k p site ks st)).2.e ≠ 0 /\ (bZ T ⟨aU k, p, aO, 0, nm, rg, -1, p0, p1, p2⟩).2 = (fin id p (aN cls k p site ks st)).2.e /\ (fin id p (aN cls k p site ks st)).2.at_ = p) := by
 have small : ∀ (t : Ty) (f : NR), t.size <= 63 -> aN cls k p site ks st = (t, st) -> bZ T f = (t.bare, 0) -> ((fin id p (aN cls k p site ks st)).2.e = 0 /\ bZ T f = ((fin id p (aN cls k p site ks st)).1.bare, 0)) \/ ((fin id p (aN cls k p site ks st)).2.e ≠ 0 /\ (bZ T f).2 = (fin id p (aN cls k p site ks st)).2.e /\ (fin id p (aN cls k p site ks st)).2.at_ = p) := by
  intro t f ht he hf
  rw [he]
  have := kY id p (t, st) ht
  exact Or.inl ⟨this.2.1.trans h0, by rw [this.1]; exact hf⟩
 have bad : ∀ (f : NR), aN cls k p site ks st = (.n, cS st 5 p) -> (bZ T f).2 = 5 -> ((fin id p (aN cls k p site ks st)).2.e = 0 /\ bZ T f = ((fin id p (aN cls k p site ks st)).1.bare, 0)) \/ ((fin id p (aN cls k p site ks st)).2.e ≠ 0 /\ (bZ T f).2 = (fin id p (aN cls k p site ks st)).2.e /\ (fin id p (aN cls k p site ks st)).2.at_ = p) := by
  intro f he hf
  rw [he]
  have := aau st p id h0
  exact Or.inr ⟨by rw [this.1]; decide, by rw [this.1]; exact hf, this.2⟩
 match k, ks, hl with
 | .bb, [a, b], _ =>
  have e1 := k1 b rfl
  exact small b _ (hs b (by simp)) (by simp [aN]) (by simp [bZ, aU, bE, cG, e1])
 | .new, [a], _ =>
  have e0 := k0 a rfl
  exact small a _ (hs a (by simp)) (by simp [aN, bB]) (by simp [bZ, aU, bE, cG, e0])
 | .pair, [a, b], _ =>
  have e0 := k0 a rfl
  have e1 := k1 b rfl
  have he : aN cls .pair p site [a, b] st = (.p (cls.getD site 0) a b, st) := by simp [aN, bB]
  generalize cls.getD site 0 = g at he
  have hsz : (Ty.p 0 a.bare b.bare).size = (Ty.p g a b).size := by simp [Ty.size, Jn]
  by_cases MS : 63 < (Ty.p g a b).size
  ·right
   rw [he]
   have := MQ id p (.p g a b, st) h0 MS
   refine ⟨by rw [this.1]; decide, ?_, this.2⟩
   rw [this.1]
   simp only [bZ, aU, bE, cG, e0, e1, hsz]
   simp [MS]
  ·exact small _ _ (by omega) he (by simp only [bZ, aU, bE, cG, e0, e1, hsz]; simp [MS, Ty.bare])
 | .fst, [a], _ =>
  have e0 := k0 a rfl
  cases a with
  | n => exact bad _ (by simp [aN, bB]) (by simp only [bZ, aU, bE, cG, e0]; simp [Ty.bare])
  | p r x y =>
   have hsx : x.size <= 63 := by have := hs (.p r x y) (by simp); simp only [Ty.size] at this; omega
   exact small x _ hsx (by simp [aN, bB]) (by simp only [bZ, aU, bE, cG, e0]; simp [Ty.bare])
 | .snd, [a], _ =>
  have e0 := k0 a rfl
  cases a with
  | n => exact bad _ (by simp [aN, bB]) (by simp only [bZ, aU, bE, cG, e0]; simp [Ty.bare])
  | p r x y =>
   have hsx : y.size <= 63 := by have := hs (.p r x y) (by simp); simp only [Ty.size] at this; omega
   exact small y _ hsx (by simp [aN, bB]) (by simp only [bZ, aU, bE, cG, e0]; simp [Ty.bare])
 | .fH, [a, b, c], _ =>
  have e0 := k0 a rfl
  have e1 := k1 b rfl
  have e2 := k2 c rfl
  by_cases hh : a = .n /\ b.bare = c.bare
  ·exact small b _ (hs b (by simp)) (by simp [aN, bB, hh]) (by simp only [bZ, aU, bE, cG, e0, e1, e2]; simp [qN, hh])
  ·exact bad _ (by simp only [aN, bB]; simp [hh]) (by simp only [bZ, aU, bE, cG, e0, e1, e2]; simp only [qN]; simp [hh])
 | .loop, [a, b, c], _ =>
  have e0 := k0 a rfl
  have e1 := k1 b rfl
  have e2 := k2 c rfl
  by_cases hh : a = .n /\ b.bare = c.bare
  ·exact small b _ (hs b (by simp)) (by simp [aN, bB, hh]) (by simp only [bZ, aU, bE, cG, e0, e1, e2]; simp [qN, hh])
  ·exact bad _ (by simp only [aN, bB]; simp [hh]) (by simp only [bZ, aU, bE, cG, e0, e1, e2]; simp only [qN]; simp [hh])
 | .add, [a, b], _ =>
  have e0 := k0 a rfl
  have e1 := k1 b rfl
  by_cases hh : a = .n /\ b = .n
  ·exact small .n _ (by simp [Ty.size]) (by simp [aN, bB, hh]) (by simp only [bZ, aU, bE, cG, e0, e1]; simp [hh, Ty.bare])
  ·exact bad _ (by simp only [aN, bB]; simp [hh]) (by simp only [bZ, aU, bE, cG, e0, e1]; simp only [qN]; simp [hh])
 | .sub, [a, b], _ =>
  have e0 := k0 a rfl
  have e1 := k1 b rfl
  by_cases hh : a = .n /\ b = .n
  ·exact small .n _ (by simp [Ty.size]) (by simp [aN, bB, hh]) (by simp only [bZ, aU, bE, cG, e0, e1]; simp [hh, Ty.bare])
  ·exact bad _ (by simp only [aN, bB]; simp [hh]) (by simp only [bZ, aU, bE, cG, e0, e1]; simp only [qN]; simp [hh])
 | .less, [a, b], _ =>
  have e0 := k0 a rfl
  have e1 := k1 b rfl
  by_cases hh : a = .n /\ b = .n
  ·exact small .n _ (by simp [Ty.size]) (by simp [aN, bB, hh]) (by simp only [bZ, aU, bE, cG, e0, e1]; simp [hh, Ty.bare])
  ·exact bad _ (by simp only [aN, bB]; simp [hh]) (by simp only [bZ, aU, bE, cG, e0, e1]; simp only [qN]; simp [hh])
theorem cR.Tj {scope : Sc} {nm : List UInt8} : ∀ {ts : List PT} {bs : List Bool} {base : Nat} {ns : List NR}, cR scope nm ts bs base ns -> bs.length = ts.length
 | [], _, _, _, h => by simp only [cR] at h; simp [h.1]
 | _ :: _, [], _, _, h => by simp [cR] at h
 | t :: r, b :: bs, _, _, h => by
  simp only [cR] at h
  obtain ⟨a, c, h1, h2, rfl⟩ := h
  simp [cR.Tj h2]
theorem De (cls : List Nat) (p : Nat) (k : Kw) (nm rg : List UInt8) (kids : List PT) (id site : Nat) (env : aQ) (prev : Ty) (st : dD) (hl : (bX k).length = kids.length) :
  aD cls (.node p k nm rg kids) id site env st = fin id p (
   if (mN cls nm kids (bX k) (id + 1) (site + if k = .pair then 1 else 0) env prev st).2.e ≠ 0 /\ k ≠ .bb then (.n, (mN cls nm kids (bX k) (id + 1) (site + if k = .pair then 1 else 0) env prev st).2)
   else aN cls k p site (mN cls nm kids (bX k) (id + 1) (site + if k = .pair then 1 else 0) env prev st).1 (mN cls nm kids (bX k) (id + 1) (site + if k = .pair then 1 else 0) env prev st).2) := by
 have hk : ∀ bs, bX k = bs -> (∀ b ∈ bs, b = false) -> mN cls nm kids (bX k) (id + 1) (site + if k = .pair then 1 else 0) env prev st = ba cls kids (id + 1) (site + if k = .pair then 1 else 0) env st := by
  intro bs hb h
  exact Dr cls nm kids (bX k) _ _ env prev st hl (by rw [hb]; exact h)
 by_cases h1 : k = .bb
 ·subst h1
  match kids, hl with
  | [a, b], _ => simp [aD, dx, mN, bX, aN]
 by_cases h2 : k = .loop
 ·subst h2
  match kids, hl with
  | [a, b, c], _ => simp [aD, aT, mN, bX, aN]
 have h3 : ∀ b ∈ bX k, b = false := by
  revert h1 h2; cases k <;> simp [bX]
 rw [hk _ rfl h3]
 simp only [aD, if_neg h1, if_neg h2, aN]
 simp [h1]
mutual
theorem Vi (cls : List Nat) (hc : ∀ x ∈ cls, x < 1000) : ∀ (t : PT) (scope : Sc) (ns : List NR) (env : aQ) (st : dD) (T : List Ty) (id site : Nat), NA scope t T.length ns -> di T env scope -> st.e = 0 -> jN env st ->
  Agree T t.cnt (aD cls t id site env st).2.e (aD cls t id site env st).2.at_ (fU T ns) (fun T1 => T1[T.length + t.cnt - 1]? = some (aD cls t id site env st).1.bare)
 | .num p s, scope, ns, env, st, T, id, site, hn, _, h0, _ => by
  simp only [NA] at hn
  subst hn
  simp only [aD]
  have hf := kY id p (Ty.n, st) (by simp [Ty.size])
  left
  refine ⟨hf.2.1.trans h0, by simp [fU, bZ], [.n], by simp [fU, bZ], rfl, ?_⟩
  rw [hf.1]; simp [PT.cnt, Ty.bare]
 | .name p s, scope, ns, env, st, T, id, site, hn, hr, h0, ho => by
  simp only [NA] at hn
  subst hn
  simp only [aD]
  rcases hr.look s with ⟨h1, h2⟩ | ⟨t, h1, h2, h3⟩
  ·rw [h1]
   simp only
   have hf := kY id p (Ty.n, cS st 4 p) (by simp [Ty.size])
   have he : (cS st 4 p).e = 4 /\ (cS st 4 p).at_ = p := by unfold cS; rw [if_pos h0]; exact ⟨rfl, rfl⟩
   right
   refine ⟨by rw [hf.2.1]; simp [he.1], ?_⟩
   rw [hf.2.1, hf.2.2]
   simp [fU, bZ, h2, he]
  ·rw [h1]
   simp only
   obtain ⟨x, hx, rfl⟩ := CL h1
   have hf := kY id p (x.2, st) (ho.2 h0 x hx)
   left
   refine ⟨hf.2.1.trans h0, by simp [fU, bZ, h2], [x.2.bare], by simp [fU, bZ, h2, h3], rfl, ?_⟩
   rw [hf.1]; simp [PT.cnt]
 | .node p k nm rg kids, scope, ns, env, st, T, id, site, hn, hr, h0, ho => by
  simp only [NA] at hn
  obtain ⟨ks, aO, hks, rfl⟩ := hn
  have hb := hks.Tj
  have hK := QW cls hc nm kids (bX k) scope ks env .n st T (id + 1) (site + if k = .pair then 1 else 0) hks hr h0 ho lC (by simp [Ty.size]) (fun e => by revert e; cases k <;> simp [bX])
  have hlen : (mN cls nm kids (bX k) (id + 1) (site + if k = .pair then 1 else 0) env .n st).1.length = (bX k).length := AY cls nm kids (bX k) _ _ _ _ _ hb
  rw [De cls p k nm rg kids id site env .n st hb]
  generalize mN cls nm kids (bX k) (id + 1) (site + if k = .pair then 1 else 0) env .n st = x at hK hlen
  rw [mO]
  obtain ⟨hA, hS⟩ := hK
  rcases hA with ⟨e0, hy, T', Uk, MT, hP⟩ | ⟨e1, hy⟩
  ·have Mg : ¬ (x.2.e ≠ 0 /\ k ≠ .bb) := fun h => h.1 e0
   rw [if_neg Mg, hy, if_neg (by simp), Uk]
   have hnm := Jp cls k id p site x.1 x.2 (T ++ T') aO nm (au rg) ((ay kids T.length).getD 0 (-1)) ((ay kids T.length).getD 1 (-1)) ((ay kids T.length).getD 2 (-1)) hlen e0 (fun t ht => hS e0 t ht) (hP 0) (hP 1) (hP 2)
   simp only [fU]
   rcases hnm with ⟨f0, ft⟩ | ⟨f1, f2, f3⟩
   ·left
    rw [ft]
    refine ⟨f0, by simp, T' ++ [(fin id p (aN cls k p site x.1 x.2)).1.bare], by simp, by simp [MT, PT.cnt]; omega, ?_⟩
    show (T ++ (T' ++ [_]))[_]? = _
    have hi : T.length + (PT.node p k nm rg kids).cnt - 1 = (T ++ T').length := by simp [MT, PT.cnt]; omega
    rw [<- List.append_assoc, hi, List.getElem?_append_right (Nat.le_refl _)]
    simp
   ·right
    rw [f2, if_pos f1]
    exact ⟨f1, by simp [f3]⟩
  ·have hne : (fU T ks).1.1 ≠ 0 := by rw [hy]; exact e1
   rw [if_pos hne]
   right
   have hst : ∀ y : Ty × dD, y.2 = x.2 -> (fin id p y).2.e ≠ 0 /\ (fU T ks).1 = ((fin id p y).2.e, (fin id p y).2.at_) := by
    intro y hyx
    have := mc id p y (by rw [hyx]; exact e1)
    rw [this.1, this.2, hyx]; exact ⟨e1, hy⟩
   by_cases hk : k = .bb
   ·rw [if_neg (fun h => h.2 hk)]
    exact hst _ (by simp [aN, hk])
   ·rw [if_pos ⟨e1, hk⟩]
    exact hst _ rfl
theorem QW (cls : List Nat) (hc : ∀ x ∈ cls, x < 1000) (nm : List UInt8) : ∀ (ts : List PT) (bs : List Bool) (scope : Sc) (ns : List NR) (env : aQ) (prev : Ty) (st : dD) (T : List Ty) (id site : Nat), cR scope nm ts bs T.length ns -> di T env scope -> st.e = 0 -> jN env st ->
  prev.fit -> prev.size <= 63 -> (bs.head? = some true -> 0 < T.length /\ T[T.length - 1]? = some prev.bare) ->
  Agree T (aB ts) (mN cls nm ts bs id site env prev st).2.e (mN cls nm ts bs id site env prev st).2.at_ (fU T ns) (fun T1 => ∀ (j : Nat) (t : Ty), (mN cls nm ts bs id site env prev st).1[j]? = some t -> ai T1 ((ay ts T.length).getD j (-1)) = t.bare) /\
   ((mN cls nm ts bs id site env prev st).2.e = 0 -> ∀ t ∈ (mN cls nm ts bs id site env prev st).1, t.size <= 63)
 | [], bs, scope, ns, env, prev, st, T, id, site, hn, _, h0, _, _, _, _ => by
  simp only [cR] at hn
  obtain ⟨rfl, rfl⟩ := hn
  simp only [mN]
  exact ⟨Or.inl ⟨h0, rfl, [], by simp [fU], rfl, by simp⟩, by simp⟩
 | _ :: _, [], _, _, _, _, _, _, _, _, hn, _, _, _, _, _, _ => by simp [cR] at hn
 | a :: r, b :: bs, scope, ns, env, prev, st, T, id, site, hn, hr, h0, ho, gu, uE, hp3 => by
  simp only [cR] at hn
  obtain ⟨na, nc, h1, h2, rfl⟩ := hn
  have hr' : di T (if b then env ++ [(nm, prev)] else env) (if b then scope ++ [(nm, (T.length : Int) - 1)] else scope) := by
   cases b with
   | false => exact hr
   | true =>
    obtain ⟨hT0, lS⟩ := hp3 rfl
    refine hr.app ⟨rfl, ?_, ?_, trivial⟩
    ·show (0 : Int) <= (T.length : Int) - 1; omega
    ·show T[((T.length : Int) - 1).toNat]? = _
     rw [show ((T.length : Int) - 1).toNat = T.length - 1 from by omega]; exact lS
  have BV : jN (if b then env ++ [(nm, prev)] else env) st := by
   cases b with
   | false => exact ho
   | true =>
    constructor
    ·intro x hx
     rcases List.mem_append.1 hx with hx | hx
     ·exact ho.1 x hx
     ·rw [List.mem_singleton] at hx; subst hx; exact gu
    ·intro e0 x hx
     rcases List.mem_append.1 hx with hx | hx
     ·exact ho.2 e0 x hx
     ·rw [List.mem_singleton] at hx; subst hx; exact uE
  have hA := Vi cls hc a (if b then scope ++ [(nm, (T.length : Int) - 1)] else scope) na (if b then env ++ [(nm, prev)] else env) st T id site h1 hr' h0 BV
  have hR := eZ cls hc a id site (if b then env ++ [(nm, prev)] else env) st BV
  simp only [mN]
  generalize aD cls a id site (if b then env ++ [(nm, prev)] else env) st = x at hA hR
  rw [mO]
  rcases hA with ⟨e0, hy, T', Uk, MT, hP⟩ | ⟨e1, hy⟩
  ·rw [hy, if_neg (by simp), Uk]
   have hl1 : (T ++ T').length = T.length + a.cnt := by simp [MT]
   have hcp := dI a
   have hB := QW cls hc nm r bs scope nc env x.1 x.2 (T ++ T') (id + a.cnt) (site + a.bJ) (by rw [hl1]; exact h2) hr.more e0 (ho.on (fun _ => h0)) hR.1 (hR.2.1 e0).2 (fun _ => ⟨by omega, by rw [hl1]; exact hP⟩)
   generalize mN cls nm r bs (id + a.cnt) (site + a.bJ) env x.1 x.2 = y at hB
   obtain ⟨Rj, kZ⟩ := hB
   refine ⟨?_, ?_⟩
   ·rcases Rj with ⟨f0, fy, T2, qX, aav, hP2⟩ | ⟨f1, fy⟩
    ·left
     refine ⟨f0, fy, T' ++ T2, by rw [qX]; simp, by simp [MT, aav, aB], ?_⟩
     intro j t hj
     cases j with
     | zero =>
      simp only [List.getElem?_cons_zero, Option.some.injEq] at hj
      subst hj
      simp only [ay, List.getD_cons_zero]
      rw [show ((T.length + a.cnt : Nat) : Int) - 1 = ((T.length + a.cnt - 1 : Nat) : Int) from by omega, <- List.append_assoc]
      refine qB ?_
      rw [List.getElem?_append_left (by omega)]; exact hP
     | succ j =>
      simp only [List.getElem?_cons_succ] at hj
      simp only [ay, List.getD_cons_succ]
      have := hP2 j t hj
      rw [hl1] at this
      rw [<- List.append_assoc]; exact this
    ·exact Or.inr ⟨f1, fy⟩
   ·intro f0 t ht
    rcases List.mem_cons.1 ht with rfl | ht
    ·exact (hR.2.1 e0).2
    ·exact kZ f0 t ht
  ·have hne : (fU T na).1.1 ≠ 0 := by rw [hy]; exact e1
   rw [if_pos hne]
   have hs := xx cls nm r bs (id + a.cnt) (site + a.bJ) env x.1 x.2 e1
   generalize mN cls nm r bs (id + a.cnt) (site + a.bJ) env x.1 x.2 = y at hs
   refine ⟨Or.inr ⟨?_, ?_⟩, ?_⟩
   ·rw [hs.1]; exact e1
   ·rw [hy, hs.1, hs.2]
   ·intro f0; rw [hs.1] at f0; exact absurd f0 e1
end
mutual
def PT.DE : PT -> List (Nat × List UInt8)
 | .num _ _ => []
 | .name _ _ => []
 | .node p k _ rg kids => (if k = .pair then [(p, rg)] else []) ++ sV kids
def sV : List PT -> List (Nat × List UInt8)
 | [] => []
 | t :: r => t.DE ++ sV r
end
mutual
theorem uI : ∀ t : PT, t.DE.length = t.bJ
 | .num _ _ => rfl
 | .name _ _ => rfl
 | .node _ k _ _ kids => by simp only [PT.DE, PT.bJ, List.length_append, Ds kids]; split <;> rfl
theorem Ds : ∀ ts : List PT, (sV ts).length = jQ ts
 | [] => rfl
 | t :: r => by simp only [sV, jQ, List.length_append, uI t, Ds r]
end
end Go.Proofs.YtpicaknklgccoaaGreatDoor
