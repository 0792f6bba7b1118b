import Derived.Test.YtpicaknklgccoabGreatDoorX29
namespace Go.Proofs.YtpicaknklgccoabGreatDoor
inductive WTR : TEnv → PT → Ty → Prop
 | num {G : TEnv} {p : Nat} {s : List UInt8} (h : 0 ≤ valueL s ∧ valueL s ≤ 9999) : WTR G (.num p s) .n
 | name {G : TEnv} {p : Nat} {s : List UInt8} {T : Ty} (h : look G s = some T) : WTR G (.name p s) T
 | let_ {G : TEnv} {p : Nat} {nm rg : List UInt8} {a b : PT} {A B : Ty} (ha : WTR G a A) (hb : WTR (G ++ [(nm, A)]) b B) : WTR G (.node p .let_ nm rg [a, b]) B
 | pair {G : TEnv} {p : Nat} {nm rg : List UInt8} {a b : PT} {A B : Ty} {r : Nat} (hr : valueL rg = (r : Int)) (ha : WTR G a A) (hb : WTR G b B) : WTR G (.node p .pair nm rg [a, b]) (.p r A B)
 | fst {G : TEnv} {p : Nat} {nm rg : List UInt8} {a : PT} {r : Nat} {A B : Ty} (ha : WTR G a (.p r A B)) : WTR G (.node p .fst nm rg [a]) A
 | snd {G : TEnv} {p : Nat} {nm rg : List UInt8} {a : PT} {r : Nat} {A B : Ty} (ha : WTR G a (.p r A B)) : WTR G (.node p .snd nm rg [a]) B
 | if_ {G : TEnv} {p : Nat} {nm rg : List UInt8} {a b c : PT} {T : Ty} (ha : WTR G a .n) (hb : WTR G b T) (hc : WTR G c T) : WTR G (.node p .if_ nm rg [a, b, c]) T
 | two {G : TEnv} {p : Nat} {k : Kw} {nm rg : List UInt8} {a b : PT} (hk : k = .add ∨ k = .sub ∨ k = .less) (ha : WTR G a .n) (hb : WTR G b .n) : WTR G (.node p k nm rg [a, b]) .n
 | loop {G : TEnv} {p : Nat} {nm rg : List UInt8} {a b c : PT} {T : Ty} (ha : WTR G a .n) (hb : WTR G b T) (hc : WTR (G ++ [(nm, T)]) c T) : WTR G (.node p .loop nm rg [a, b, c]) T
 | new {G : TEnv} {p : Nat} {nm rg : List UInt8} {a : PT} {T : Ty} (ha : WTR G a T) (hm : T.has (valueL rg) = false) : WTR G (.node p .new nm rg [a]) T
def LiveR (m : MM) : Ty → MV → Prop
 | .n, v => v.c = false ∧ 0 ≤ v.n ∧ v.n ≤ 9999
 | .p r A B, v => v.c = true ∧ ∃ (i : Nat) (c : MC) (g : MR), v.n = i ∧ m.cells[i]? = some c ∧ m.regs[c.home]? = some g ∧ g.ser = c.ser ∧ (g.num = (r : Int) ∨ c.home = 0) ∧ LiveR m A c.a ∧ LiveR m B c.b
def rkey (r : MR) : Int × Nat := (r.num, r.ser)
def SameR (m m' : MM) : Prop := m'.regs.map rkey = m.regs.map rkey
theorem SameR.refl (m : MM) : SameR m m := rfl
theorem SameR.trans {a b c : MM} (h : SameR a b) (g : SameR b c) : SameR a c := Eq.trans g h
theorem SameR.of {m m' : MM} (h : m'.regs = m.regs) : SameR m m' := by unfold SameR; rw [h]
theorem SameR.at {m m' : MM} (h : SameR m m') {i : Nat} {g : MR} (hi : m.regs[i]? = some g) : ∃ g', m'.regs[i]? = some g' ∧ g'.num = g.num ∧ g'.ser = g.ser := by
 have e := congrArg (fun l => l[i]?) h
 simp only [List.getElem?_map, hi, Option.map_some] at e
 cases h' : m'.regs[i]? with
 | none => rw [h'] at e; simp at e
 | some g' =>
  rw [h'] at e
  simp only [Option.map_some, Option.some.injEq, rkey, Prod.mk.injEq] at e
  exact ⟨g', rfl, e.1, e.2⟩
theorem SameR.len {m m' : MM} (h : SameR m m') : m'.regs.length = m.regs.length := by have := congrArg List.length h; simpa using this
theorem LiveR.on {m m' : MM} (hc : ∃ l, m'.cells = m.cells ++ l) (hs : SameR m m') : ∀ {T : Ty} {v : MV}, LiveR m T v → LiveR m' T v
 | .n, _, h => h
 | .p r A B, v, h => by
  simp only [LiveR] at h ⊢
  obtain ⟨h0, i, c, g, h1, h2, h3, h4, h5, h6, h7⟩ := h
  obtain ⟨g', k1, k2, k3⟩ := hs.at h3
  obtain ⟨l, hl⟩ := hc
  refine ⟨h0, i, c, g', h1, ?_, k1, k3.trans h4, ?_, LiveR.on ⟨l, hl⟩ hs h6, LiveR.on ⟨l, hl⟩ hs h7⟩
  ·rw [hl, List.getElem?_append_left (List.getElem?_eq_some_iff.1 h2).1]; exact h2
  ·rw [k2]; exact h5
theorem has_pO {r : Nat} {A B : Ty} {k : Int} (h : (Ty.p r A B).has k = false) : (r : Int) ≠ k ∧ A.has k = false ∧ B.has k = false := by
 unfold Ty.has at h ⊢
 simp only [Ty.rgl, List.any_cons, List.any_append, Bool.or_eq_false_iff, beq_eq_false_iff_ne] at h
 exact ⟨h.1, h.2.1, h.2.2⟩
theorem LiveR.fin {m x : MM} {k : Int} (hm : 0 < m.regs.length) (hs : SameR (m.opn k) x) : ∀ {T : Ty} {v : MV}, T.has k = false → LiveR x T v → LiveR x.fin T v
 | .n, _, _, h => h
 | .p r A B, v, ht, h => by
  obtain ⟨hr, hA, hB⟩ := has_pO ht
  simp only [LiveR] at h ⊢
  obtain ⟨h0, i, c, g, h1, h2, h3, h4, h5, h6, h7⟩ := h
  have hl : x.regs.length = m.regs.length + 1 := by rw [hs.len]; simp [MM.opn]
  have hlt := (List.getElem?_eq_some_iff.1 h3).1
  have hne : c.home ≠ m.regs.length := by
   intro e
   rcases h5 with h5 | h5
   ·obtain ⟨g', k1, k2, _⟩ := hs.at (i := m.regs.length) (g := ⟨k, m.opened, 0⟩) (by simp [MM.opn])
    rw [e, k1] at h3
    cases h3
    exact hr (h5.symm.trans k2)
   ·omega
  have hfr : x.fin.regs = x.regs.dropLast ∧ x.fin.cells = x.cells := by
   unfold MM.fin
   cases hg : x.regs.getLast? with
   | none => have : x.regs = [] := by simpa using hg
             rw [this] at hl; simp at hl
   | some _ => exact ⟨rfl, rfl⟩
  refine ⟨h0, i, c, g, h1, by rw [hfr.2]; exact h2, ?_, h4, h5, LiveR.fin hm hs hA h6, LiveR.fin hm hs hB h7⟩
  rw [hfr.1, List.getElem?_dropLast, if_pos (by omega)]; exact h3
theorem SameR.new {m x : MM} {k : Int} (hs : SameR (m.opn k) x) : SameR m x.fin := by
 have hl : x.regs.length = m.regs.length + 1 := by rw [hs.len]; simp [MM.opn]
 have hfr : x.fin.regs = x.regs.dropLast := by
  unfold MM.fin
  cases hg : x.regs.getLast? with
  | none => have : x.regs = [] := by simpa using hg
            rw [this] at hl; simp at hl
  | some _ => rfl
 unfold SameR at hs ⊢
 rw [hfr, List.map_dropLast, hs]
 simp [MM.opn]
structure LvO (m : MM) (x : MV × MM) (base c : Nat) (T : Ty) : Prop where
 ext : Ext m x.2 base c
 same : SameR m x.2
 ok : x.2.fault = 12 ∨ (x.2.fault = 0 ∧ LiveR x.2 T x.1)
theorem mW_fkx (fuel : Nat) (t : PT) : ∀ (sc : Sc) (base : Nat) (m : MM), m.fault ≠ 0 → Ext m (mW fuel t sc base m).2 base t.cnt ∧ SameR m (mW fuel t sc base m).2 := by
 induction t using PT.ind with
 | h1 p s => intro sc base m h; simp only [mW]; rw [begun_keep fuel m _ h]; exact ⟨Ext.refl _ _ _, SameR.refl _⟩
 | h2 p s => intro sc base m h; simp only [mW]; rw [begun_keep fuel m _ h]; exact ⟨Ext.refl _ _ _, SameR.refl _⟩
 | h3 p k nm rg kids ih =>
  intro sc base m h
  simp only [mW]
  split
  ·match kids, ih with
   | [], _ => exact ⟨Ext.refl _ _ _, SameR.refl _⟩
   | [a], ih =>
    simp only [mNew, PT.cnt, cntL]
    obtain ⟨h1, h2⟩ := ih a (by simp) sc base (m.opn (valueL rg)) h
    have h0 : Ext m (m.opn (valueL rg)) base (1 + (a.cnt + 0)) := Ext.same (m := m) (m' := m.opn (valueL rg)) rfl rfl _ _
    have h3 := Ext.trans (b := base) (c := 1 + (a.cnt + 0)) h0 h1 (by omega) (by omega)
    exact ⟨Ext.trans (b := base) (c := 1 + (a.cnt + 0)) h3 (fin_ext _ base (1 + (a.cnt + 0))) (by omega) (by omega), h2.new⟩
   | _ :: _ :: _, _ => exact ⟨Ext.refl _ _ _, SameR.refl _⟩
  ·rw [begun_keep fuel m _ h]; exact ⟨Ext.refl _ _ _, SameR.refl _⟩
theorem LvO.bad {fuel : Nat} (t : PT) (sc : Sc) (base : Nat) {m : MM} (h : m.fault = 12) (T : Ty) : LvO m (mW fuel t sc base m) base t.cnt T := by
 obtain ⟨h1, h2⟩ := mW_fkx fuel t sc base m (by rw [h]; decide)
 exact ⟨h1, h2, Or.inl (by rw [mW_fk fuel t sc base m (by rw [h]; decide)]; exact h)⟩
def EnvL' (m : MM) (sc : Sc) (G : TEnv) (base : Nat) : Prop := ∀ s U, look G s = some U → ∃ (i : Nat) (v : MV), findS sc s = (i : Int) ∧ i < base ∧ m.named[i]? = some v ∧ LiveR m U v
theorem EnvL'.on {m m' : MM} {sc : Sc} {G : TEnv} {base b c : Nat} (h : EnvL' m sc G base) (he : Ext m m' b c) (hs : SameR m m') (hb : base ≤ b) : EnvL' m' sc G base := by
 intro s U hl
 obtain ⟨i, v, h1, h2, h3, h4⟩ := h s U hl
 exact ⟨i, v, h1, h2, (he.named i (Or.inl (by omega))).trans h3, h4.on he.cells hs⟩
theorem EnvL'.up {m : MM} {sc : Sc} {G : TEnv} {base b : Nat} (h : EnvL' m sc G base) (hb : base ≤ b) : EnvL' m sc G b := by
 intro s U hl
 obtain ⟨i, v, h1, h2, h3, h4⟩ := h s U hl
 exact ⟨i, v, h1, by omega, h3, h4⟩
theorem EnvL'.snoc {m : MM} {sc : Sc} {G : TEnv} {base j : Nat} {nm : List UInt8} {T : Ty} {v : MV} (h : EnvL' m sc G base) (hj : base ≤ j) (hl : j < m.named.length) (hv : LiveR m T v) : EnvL' (m.name (j : Int) v) (sc ++ [(nm, (j : Int))]) (G ++ [(nm, T)]) (j + 1) := by
 have he := name_ext m j v j 1 (by omega)
 have hsm : SameR m (m.name (j : Int) v) := SameR.of (name_rl m j v)
 intro s T' hlk
 rw [look_snocF] at hlk
 rw [findS_snocO]
 by_cases hs : nm = s
 ·rw [if_pos hs] at hlk ⊢
  cases hlk
  exact ⟨j, v, rfl, by omega, name_at m j v hl, hv.on he.cells hsm⟩
 ·rw [if_neg hs] at hlk ⊢
  obtain ⟨i, u, h1, h2, h3, h4⟩ := h s T' hlk
  exact ⟨i, u, h1, by omega, (he.named i (Or.inl (by omega))).trans h3, h4.on he.cells hsm⟩
theorem begun_lv {fuel : Nat} {m : MM} {g : MM → MV × MM} {base c : Nat} {T : Ty} (h : m.fault = 0) (hk : LvO { m with steps := m.steps + 1 } (g { m with steps := m.steps + 1 }) base c T) : LvO m (mBegun fuel m g) base c T := by
 unfold mBegun
 by_cases hq : fuel ≤ m.steps
 ·simp only [if_pos hq]
  have e : m.stop 12 = { m with fault := 12 } := by unfold MM.stop; rw [if_pos h]
  rw [e, if_pos (by simp)]
  exact ⟨Ext.same (m := m) (m' := { m with fault := 12 }) rfl rfl _ _, SameR.of rfl, Or.inl rfl⟩
 ·simp only [if_neg hq]
  rw [if_neg (fun hn => hn h)]
  have h0 : Ext m { m with steps := m.steps + 1 } base c := Ext.same (m := m) (m' := { m with steps := m.steps + 1 }) rfl rfl _ _
  exact ⟨h0.trans hk.ext (by omega) (by omega), (SameR.of (m := m) (m' := { m with steps := m.steps + 1 }) rfl).trans hk.same, hk.ok⟩
theorem Ext.widen {m m' : MM} {b c B C : Nat} (h : Ext m m' b c) (hb : B ≤ b ∧ b + c ≤ B + C) : Ext m m' B C := ⟨h.cells, h.len, fun i hi => h.named i (by omega)⟩
theorem home_num (l : List MR) (k : Int) : ∀ i, (l[homeF l k i]?).map (·.num) = some k ∨ homeF l k i = 0
 | 0 => Or.inr rfl
 | i + 1 => by
  simp only [homeF]
  split
  ·rename_i h; exact Or.inl h
  ·exact home_num l k i
theorem homeF_leO (l : List MR) (k : Int) : ∀ i, homeF l k i ≤ i
 | 0 => Nat.le_refl _
 | i + 1 => by
  simp only [homeF]
  split
  ·exact Nat.le_refl _
  ·exact Nat.le_succ_of_le (homeF_leO l k i)
theorem LiveR.opn {m : MM} (k : Int) : ∀ {T : Ty} {v : MV}, LiveR m T v → LiveR (m.opn k) T v
 | .n, _, h => h
 | .p r A B, v, h => by
  simp only [LiveR] at h ⊢
  obtain ⟨h0, i, c, g, h1, h2, h3, h4, h5, h6, h7⟩ := h
  refine ⟨h0, i, c, g, h1, h2, ?_, h4, h5, LiveR.opn k h6, LiveR.opn k h7⟩
  simp only [MM.opn]
  rw [List.getElem?_append_left (List.getElem?_eq_some_iff.1 h3).1]; exact h3
theorem cell_lv {m : MM} {A B : Ty} {v u : MV} {r : Nat} (hr : 0 < m.regs.length) (ha : LiveR m A v) (hb : LiveR m B u) : SameR m (m.newCell (r : Int) v u).2 ∧ LiveR (m.newCell (r : Int) v u).2 (.p r A B) (m.newCell (r : Int) v u).1 := by
 have hhl : m.home (r : Int) < m.regs.length := by
  have := homeF_leO m.regs (r : Int) (m.regs.length - 1)
  unfold MM.home; omega
 have hg : m.regs[m.home (r : Int)]? = some m.regs[m.home (r : Int)] := List.getElem?_eq_getElem hhl
 have hn := home_num m.regs (r : Int) (m.regs.length - 1)
 have hext := cell_ext m (r : Int) v u 0 0
 have hsame : SameR m (m.newCell (r : Int) v u).2 := by
  unfold SameR MM.newCell
  rw [hg]
  simp only [List.map_set]
  rw [show rkey { m.regs[m.home (r : Int)] with cells := m.regs[m.home (r : Int)].cells + 1 } = (m.regs.map rkey)[m.home (r : Int)]'(by simpa using hhl) by simp [rkey]]
  exact List.set_getElem_self _
 have hA := ha.on hext.cells hsame
 have hB := hb.on hext.cells hsame
 refine ⟨hsame, ?_⟩
 revert hA hB
 unfold MM.newCell
 rw [hg]
 intro hA hB
 simp only [LiveR]
 refine ⟨trivial, m.cells.length, ⟨v, u, m.home (r : Int), m.regs[m.home (r : Int)].ser⟩, { m.regs[m.home (r : Int)] with cells := m.regs[m.home (r : Int)].cells + 1 }, rfl, by simp, by simp [hhl], rfl, ?_, hA, hB⟩
 rcases hn with hn | hn
 ·left
  have : m.regs[m.home (r : Int)]?.map (·.num) = some (r : Int) := hn
  rw [hg] at this
  simpa using this
 ·exact Or.inr hn
theorem use_lv {m : MM} {r : Nat} {A B : Ty} {v : MV} (h : LiveR m (.p r A B) v) : (m.use v).2 = m ∧ LiveR m A (m.use v).1.a ∧ LiveR m B (m.use v).1.b := by
 simp only [LiveR] at h
 obtain ⟨hc, i, c, g, hv, hi, h3, h4, _, ha, hb⟩ := h
 have hil := (List.getElem?_eq_some_iff.1 hi).1
 have e2 : m.cells.getD v.n.toNat c0 = c := by rw [hv, Int.toNat_natCast, List.getD_eq_getElem?_getD, hi]; rfl
 have hlv : m.isLive c = true := by unfold MM.isLive; rw [h3]; simp [h4]
 have e : m.use v = (c, m) := by
  unfold MM.use
  rw [if_neg (by rw [hc, hv]; simp; omega), e2, if_pos hlv]
 rw [e]; exact ⟨rfl, ha, hb⟩
theorem mTurns_fk (i : Int) (f : MM → MV × MM) (k : Nat) (v : MV) (m : MM) (h : m.fault ≠ 0) : mTurns i f k v m = (v, m) := by
 cases k with
 | zero => rfl
 | succ k => simp only [mTurns]; rw [if_pos h]
theorem turns_lv {T : Ty} {j B C : Nat} {g : MM → MV × MM} {P : MM → Prop} (hj : B ≤ j ∧ j < B + C) (hstep : ∀ m v, P m → m.fault = 0 → LiveR m T v → LvO (m.name (j : Int) v) (g (m.name (j : Int) v)) B C T ∧ P (g (m.name (j : Int) v)).2) : ∀ (k : Nat) (m : MM) (v : MV), P m → m.fault = 0 → LiveR m T v → LvO m (mTurns (j : Int) g k v m) B C T
 | 0, m, v, _, hf, hv => ⟨Ext.refl _ _ _, SameR.refl _, Or.inr ⟨hf, hv⟩⟩
 | k + 1, m, v, hP, hf, hv => by
  simp only [mTurns]
  rw [if_neg (fun hn => hn hf)]
  obtain ⟨h1, h2⟩ := hstep m v hP hf hv
  have hne := name_ext m j v B C hj
  have hns : SameR m (m.name (j : Int) v) := SameR.of (name_rl m j v)
  have hE := Ext.trans (b := B) (c := C) hne h1.ext (by omega) (by omega)
  have hS := hns.trans h1.same
  rcases h1.ok with h12 | ⟨h0, hl⟩
  ·rw [mTurns_fk _ _ _ _ _ (by rw [h12]; decide)]
   exact ⟨hE, hS, Or.inl h12⟩
  ·have h3 := turns_lv hj hstep k _ _ h2 h0 hl
   exact ⟨Ext.trans (b := B) (c := C) hE h3.ext (by omega) (by omega), hS.trans h3.same, h3.ok⟩
theorem LiveR.step {m : MM} {n : Nat} {T : Ty} {v : MV} (h : LiveR m T v) : LiveR { m with steps := n } T v :=
 LiveR.on (m := m) (m' := { m with steps := n }) ⟨[], by simp⟩ (SameR.of rfl) h
theorem EnvL'.step {m : MM} {sc : Sc} {G : TEnv} {base n : Nat} (h : EnvL' m sc G base) : EnvL' { m with steps := n } sc G base := fun s U hl => by
 obtain ⟨i, v, h1, h2, h3, h4⟩ := h s U hl
 exact ⟨i, v, h1, h2, h3, h4.step⟩
set_option maxHeartbeats 2000000 in
theorem mW_live (fuel : Nat) {G : TEnv} {t : PT} {T : Ty} (h : WTR G t T) : ∀ (sc : Sc) (base : Nat) (m : MM), EnvL' m sc G base → base + t.cnt ≤ m.named.length → m.fault = 0 → 0 < m.regs.length → LvO m (mW fuel t sc base m) base t.cnt T := by
 induction h with
 | num h =>
  intro sc base m he hl hf hr
  simp only [mW]
  exact begun_lv hf ⟨Ext.refl _ _ _, SameR.refl _, Or.inr ⟨hf, by simp only [LiveR]; exact ⟨trivial, h.1, h.2⟩⟩⟩
 | name hlk =>
  intro sc base m he hl hf hr
  simp only [mW]
  refine begun_lv hf ⟨Ext.refl _ _ _, SameR.refl _, Or.inr ⟨hf, ?_⟩⟩
  obtain ⟨i, v, h1, h2, h3, h4⟩ := he _ _ hlk
  have hil := (List.getElem?_eq_some_iff.1 h3).1
  unfold MM.look
  simp only [h1]
  rw [if_neg (by omega), Int.toNat_natCast, List.getD_eq_getElem?_getD, h3]
  exact h4.step
 | @let_ G p nm rg a b A B ha hb iha ihb =>
  intro sc base m he hl hf hr
  simp only [PT.cnt, cntL, Nat.add_zero] at hl ⊢
  simp only [mW, mLet, if_true, reduceCtorEq, if_false]
  refine begun_lv hf ?_
  have h1 := iha sc base { m with steps := m.steps + 1 } he.step (by simp only; omega) hf hr
  generalize mW fuel a sc base { m with steps := m.steps + 1 } = x at h1 ⊢
  have hca := cnt_pos' a
  have hxl : x.2.named.length = m.named.length := h1.ext.len
  rw [show (((base + a.cnt : Nat) : Int) - 1) = ((base + a.cnt - 1 : Nat) : Int) from by omega]
  have hne := name_ext x.2 (base + a.cnt - 1) x.1 base (1 + (a.cnt + b.cnt)) (by omega)
  have hE1 := Ext.trans (b := base) (c := 1 + (a.cnt + b.cnt)) h1.ext hne (by omega) (by omega)
  have hS1 := h1.same.trans (SameR.of (name_rl x.2 (base + a.cnt - 1 : Nat) x.1))
  have h2 : LvO (x.2.name ((base + a.cnt - 1 : Nat) : Int) x.1) (mW fuel b (sc ++ [(nm, ((base + a.cnt - 1 : Nat) : Int))]) (base + a.cnt) (x.2.name ((base + a.cnt - 1 : Nat) : Int) x.1)) (base + a.cnt) b.cnt B := by
   rcases h1.ok with h12 | ⟨h0, hv⟩
   ·exact LvO.bad b _ _ (by rw [(name_fault _ _ _).1]; exact h12) B
   ·have hx := he.step.on h1.ext h1.same (Nat.le_refl _)
    have hsn := hx.snoc (nm := nm) (j := base + a.cnt - 1) (by omega) (by omega) hv
    rw [show base + a.cnt - 1 + 1 = base + a.cnt from by omega] at hsn
    exact ihb _ _ _ hsn (by rw [hne.len, hxl]; omega) (by rw [(name_fault _ _ _).1]; exact h0) (by rw [name_rl, h1.same.len]; exact hr)
  exact ⟨Ext.trans (b := base) (c := 1 + (a.cnt + b.cnt)) hE1 h2.ext (by omega) (by omega), hS1.trans h2.same, h2.ok⟩
 | @pair G p nm rg a b A B r hrg ha hb iha ihb =>
  intro sc base m he hl hf hr
  simp only [PT.cnt, cntL, Nat.add_zero] at hl ⊢
  simp only [mW, mOps, if_true, reduceCtorEq, if_false]
  refine begun_lv hf ?_
  have he1 : EnvL' { m with steps := m.steps + 1 } sc G base := he.step
  have h1 := iha sc base { m with steps := m.steps + 1 } he1 (by simp only; omega) hf hr
  generalize mW fuel a sc base { m with steps := m.steps + 1 } = x at h1 ⊢
  have hxl : x.2.named.length = m.named.length := h1.ext.len
  have h2 : LvO x.2 (mW fuel b sc (base + a.cnt) x.2) (base + a.cnt) b.cnt B := by
   rcases h1.ok with h12 | ⟨h0, _⟩
   ·exact LvO.bad b _ _ h12 B
   ·exact ihb sc (base + a.cnt) x.2 ((he1.on h1.ext h1.same (Nat.le_refl _)).up (by omega)) (by omega) h0 (by rw [h1.same.len]; exact hr)
  have hfk : x.2.fault ≠ 0 → (mW fuel b sc (base + a.cnt) x.2).2.fault = x.2.fault := mW_fk fuel b sc (base + a.cnt) x.2
  generalize mW fuel b sc (base + a.cnt) x.2 = y at h2 hfk ⊢
  have hE := Ext.trans (b := base) (c := 1 + (a.cnt + b.cnt)) h1.ext h2.ext (by omega) (by omega)
  have hS := h1.same.trans h2.same
  have hce := cell_ext y.2 (valueL rg) x.1 y.1 base (1 + (a.cnt + b.cnt))
  have hcs : SameR y.2 (y.2.newCell (valueL rg) x.1 y.1).2 := by
   unfold SameR MM.newCell
   cases hg : y.2.regs[y.2.home (valueL rg)]? with
   | none => rfl
   | some g =>
    simp only [List.map_set]
    have hlt := (List.getElem?_eq_some_iff.1 hg).1
    have hge := (List.getElem?_eq_some_iff.1 hg).2
    rw [show rkey { g with cells := g.cells + 1 } = (y.2.regs.map rkey)[y.2.home (valueL rg)]'(by simpa using hlt) by simp [rkey, hge]]
    exact List.set_getElem_self _
  refine ⟨Ext.trans (b := base) (c := 1 + (a.cnt + b.cnt)) hE hce (by omega) (by omega), hS.trans hcs, ?_⟩
  rw [newCell_fault]
  rcases h2.ok with h12 | ⟨h0, hv⟩
  ·exact Or.inl h12
  ·rcases h1.ok with g12 | ⟨g0, gv⟩
   ·rw [hfk (by rw [g12]; decide), g12] at h0; cases h0
   ·refine Or.inr ⟨h0, ?_⟩
    rw [hrg]
    exact (cell_lv (by rw [hS.len]; exact hr) (gv.on h2.ext.cells h2.same) hv).2
 | @fst G p nm rg a r A B ha iha =>
  intro sc base m he hl hf hr
  simp only [PT.cnt, cntL, Nat.add_zero] at hl ⊢
  simp only [mW, mOps, if_true, reduceCtorEq, if_false]
  refine begun_lv hf ?_
  have he1 : EnvL' { m with steps := m.steps + 1 } sc G base := he.step
  have h1 := iha sc base { m with steps := m.steps + 1 } he1 (by simp only; omega) hf hr
  generalize mW fuel a sc base { m with steps := m.steps + 1 } = x at h1 ⊢
  rcases h1.ok with h12 | ⟨h0, hv⟩
  ·rw [use_fk _ _ (by rw [h12]; decide)]
   exact ⟨h1.ext.widen (by omega), h1.same, Or.inl h12⟩
  ·obtain ⟨u1, u2, _⟩ := use_lv hv
   rw [u1]
   exact ⟨h1.ext.widen (by omega), h1.same, Or.inr ⟨h0, u2⟩⟩
 | @snd G p nm rg a r A B ha iha =>
  intro sc base m he hl hf hr
  simp only [PT.cnt, cntL, Nat.add_zero] at hl ⊢
  simp only [mW, mOps, reduceCtorEq, if_false]
  refine begun_lv hf ?_
  have he1 : EnvL' { m with steps := m.steps + 1 } sc G base := he.step
  have h1 := iha sc base { m with steps := m.steps + 1 } he1 (by simp only; omega) hf hr
  generalize mW fuel a sc base { m with steps := m.steps + 1 } = x at h1 ⊢
  rcases h1.ok with h12 | ⟨h0, hv⟩
  ·rw [use_fk _ _ (by rw [h12]; decide)]
   exact ⟨h1.ext.widen (by omega), h1.same, Or.inl h12⟩
  ·obtain ⟨u1, _, u3⟩ := use_lv hv
   rw [u1]
   exact ⟨h1.ext.widen (by omega), h1.same, Or.inr ⟨h0, u3⟩⟩
 | @if_ G p nm rg a b c T ha hb hc iha ihb ihc =>
  intro sc base m he hl hf hr
  simp only [PT.cnt, cntL, Nat.add_zero] at hl ⊢
  simp only [mW, mIf, if_true, reduceCtorEq, if_false]
  refine begun_lv hf ?_
  have he1 : EnvL' { m with steps := m.steps + 1 } sc G base := he.step
  have h1 := iha sc base { m with steps := m.steps + 1 } he1 (by simp only; omega) hf hr
  generalize mW fuel a sc base { m with steps := m.steps + 1 } = x at h1 ⊢
  have hxl : x.2.named.length = m.named.length := h1.ext.len
  have hx := he1.on h1.ext h1.same (Nat.le_refl _)
  split
  ·have h2 : LvO x.2 (mW fuel b sc (base + a.cnt) x.2) (base + a.cnt) b.cnt T := by
    rcases h1.ok with h12 | ⟨h0, _⟩
    ·exact LvO.bad b _ _ h12 T
    ·exact ihb sc (base + a.cnt) x.2 (hx.up (by omega)) (by omega) h0 (by rw [h1.same.len]; exact hr)
   exact ⟨Ext.trans (b := base) (c := 1 + (a.cnt + (b.cnt + c.cnt))) h1.ext h2.ext (by omega) (by omega), h1.same.trans h2.same, h2.ok⟩
  ·have h2 : LvO x.2 (mW fuel c sc (base + a.cnt + b.cnt) x.2) (base + a.cnt + b.cnt) c.cnt T := by
    rcases h1.ok with h12 | ⟨h0, _⟩
    ·exact LvO.bad c _ _ h12 T
    ·exact ihc sc (base + a.cnt + b.cnt) x.2 (hx.up (by omega)) (by omega) h0 (by rw [h1.same.len]; exact hr)
   exact ⟨Ext.trans (b := base) (c := 1 + (a.cnt + (b.cnt + c.cnt))) h1.ext h2.ext (by omega) (by omega), h1.same.trans h2.same, h2.ok⟩
 | @two G p k nm rg a b hkk ha hb iha ihb =>
  intro sc base m he hl hf hr
  simp only [PT.cnt, cntL, Nat.add_zero] at hl ⊢
  have e : mW fuel (.node p k nm rg [a, b]) sc base m = mBegun fuel m (fun m => (⟨false, mArith k (mW fuel a sc base m).1.n (mW fuel b sc (base + a.cnt) (mW fuel a sc base m).2).1.n⟩, (mW fuel b sc (base + a.cnt) (mW fuel a sc base m).2).2)) := by
   rcases hkk with rfl | rfl | rfl <;> simp only [mW, mOps, reduceCtorEq, if_false]
  rw [e]
  refine begun_lv hf ?_
  have he1 : EnvL' { m with steps := m.steps + 1 } sc G base := he.step
  have h1 := iha sc base { m with steps := m.steps + 1 } he1 (by simp only; omega) hf hr
  generalize mW fuel a sc base { m with steps := m.steps + 1 } = x at h1 ⊢
  have hxl : x.2.named.length = m.named.length := h1.ext.len
  have h2 : LvO x.2 (mW fuel b sc (base + a.cnt) x.2) (base + a.cnt) b.cnt .n := by
   rcases h1.ok with h12 | ⟨h0, _⟩
   ·exact LvO.bad b _ _ h12 .n
   ·exact ihb sc (base + a.cnt) x.2 ((he1.on h1.ext h1.same (Nat.le_refl _)).up (by omega)) (by omega) h0 (by rw [h1.same.len]; exact hr)
  have hfk : x.2.fault ≠ 0 → (mW fuel b sc (base + a.cnt) x.2).2.fault = x.2.fault := mW_fk fuel b sc (base + a.cnt) x.2
  generalize mW fuel b sc (base + a.cnt) x.2 = y at h2 hfk ⊢
  refine ⟨Ext.trans (b := base) (c := 1 + (a.cnt + b.cnt)) h1.ext h2.ext (by omega) (by omega), h1.same.trans h2.same, ?_⟩
  rcases h2.ok with h12 | ⟨h0, hv⟩
  ·exact Or.inl h12
  ·rcases h1.ok with g12 | ⟨g0, gv⟩
   ·rw [hfk (by rw [g12]; decide), g12] at h0; cases h0
   ·refine Or.inr ⟨h0, ?_⟩
    simp only [LiveR] at gv hv ⊢
    refine ⟨trivial, ?_⟩
    rcases hkk with rfl | rfl | rfl
    ·simp only [mArith, if_true]
     rw [Int.tmod_eq_emod_of_nonneg (by omega)]; omega
    ·simp only [mArith, if_true, reduceCtorEq, if_false]
     rw [Int.tmod_eq_emod_of_nonneg (by omega)]; omega
    ·simp only [mArith, reduceCtorEq, if_false]
     split <;> omega
 | @loop G p nm rg a b c T ha hb hc iha ihb ihc =>
  intro sc base m he hl hf hr
  simp only [PT.cnt, cntL, Nat.add_zero] at hl ⊢
  simp only [mW, mLoop, if_true, reduceCtorEq, if_false]
  refine begun_lv hf ?_
  have he1 : EnvL' { m with steps := m.steps + 1 } sc G base := he.step
  have h1 := iha sc base { m with steps := m.steps + 1 } he1 (by simp only; omega) hf hr
  generalize mW fuel a sc base { m with steps := m.steps + 1 } = x at h1 ⊢
  have hxl : x.2.named.length = m.named.length := h1.ext.len
  have hx := he1.on h1.ext h1.same (Nat.le_refl _)
  have h2 : LvO x.2 (mW fuel b sc (base + a.cnt) x.2) (base + a.cnt) b.cnt T := by
   rcases h1.ok with h12 | ⟨h0, _⟩
   ·exact LvO.bad b _ _ h12 T
   ·exact ihb sc (base + a.cnt) x.2 (hx.up (by omega)) (by omega) h0 (by rw [h1.same.len]; exact hr)
  generalize mW fuel b sc (base + a.cnt) x.2 = y at h2 ⊢
  have hyl : y.2.named.length = m.named.length := h2.ext.len.trans hxl
  have hy := (hx.up (show base ≤ base + a.cnt by omega)).on h2.ext h2.same (Nat.le_refl _)
  have hy0 := hx.on h2.ext h2.same (show base ≤ base + a.cnt by omega)
  have hcb := cnt_pos' b
  have hS := h1.same.trans h2.same
  have hE := Ext.trans (b := base) (c := 1 + (a.cnt + (b.cnt + c.cnt))) h1.ext h2.ext (by omega) (by omega)
  rw [show (((base + a.cnt + b.cnt : Nat) : Int) - 1) = ((base + a.cnt + b.cnt - 1 : Nat) : Int) from by omega]
  rcases h2.ok with h12 | ⟨h0, hv⟩
  ·rw [mTurns_fk _ _ _ _ _ (by rw [h12]; decide)]
   exact ⟨hE, hS, Or.inl h12⟩
  ·have h3 := turns_lv (T := T) (j := base + a.cnt + b.cnt - 1) (B := base) (C := 1 + (a.cnt + (b.cnt + c.cnt))) (g := fun m => mW fuel c (sc ++ [(nm, ((base + a.cnt + b.cnt - 1 : Nat) : Int))]) (base + a.cnt + b.cnt) m) (P := fun m' => EnvL' m' sc G base ∧ m'.named.length = m.named.length ∧ 0 < m'.regs.length) (by omega) (fun m' v hP hf' hv' => by
    have hsn := EnvL'.snoc (nm := nm) (j := base + a.cnt + b.cnt - 1) (hP.1.up (show base ≤ base + a.cnt + b.cnt - 1 by omega)) (Nat.le_refl _) (by omega) hv'
    rw [show base + a.cnt + b.cnt - 1 + 1 = base + a.cnt + b.cnt from by omega] at hsn
    have hne := name_ext m' (base + a.cnt + b.cnt - 1) v (base + a.cnt + b.cnt - 1) 1 (by omega)
    have hns : SameR m' (m'.name ((base + a.cnt + b.cnt - 1 : Nat) : Int) v) := SameR.of (name_rl m' _ v)
    have h4 := ihc _ (base + a.cnt + b.cnt) _ hsn (by rw [hne.len]; omega) (by rw [(name_fault _ _ _).1]; exact hf') (by rw [name_rl]; exact hP.2.2)
    refine ⟨⟨h4.ext.widen (by omega), h4.same, h4.ok⟩, (hP.1.on hne hns (by omega)).on h4.ext h4.same (by omega), h4.ext.len.trans (hne.len.trans hP.2.1), ?_⟩
    rw [h4.same.len, name_rl]; exact hP.2.2) x.1.n.toNat y.2 y.1 ⟨hy0, hyl, by rw [hS.len]; exact hr⟩ h0 hv
   exact ⟨Ext.trans (b := base) (c := 1 + (a.cnt + (b.cnt + c.cnt))) hE h3.ext (by omega) (by omega), hS.trans h3.same, h3.ok⟩
 | @new G p nm rg a T ha hm iha =>
  intro sc base m he hl hf hr
  simp only [PT.cnt, cntL, Nat.add_zero] at hl ⊢
  simp only [mW, mNew, if_true]
  have hoe : Ext m (m.opn (valueL rg)) base (1 + a.cnt) := Ext.same (m := m) (m' := m.opn (valueL rg)) rfl rfl _ _
  have heo : EnvL' (m.opn (valueL rg)) sc G base := by
   intro s U hlk
   obtain ⟨i, v, h1, h2, h3, h4⟩ := he s U hlk
   exact ⟨i, v, h1, h2, h3, h4.opn _⟩
  have h1 := iha sc base (m.opn (valueL rg)) heo (by simp only [MM.opn]; omega) hf (by simp [MM.opn])
  generalize mW fuel a sc base (m.opn (valueL rg)) = x at h1 ⊢
  have hE := Ext.trans (b := base) (c := 1 + a.cnt) hoe h1.ext (by omega) (by omega)
  refine ⟨Ext.trans (b := base) (c := 1 + a.cnt) hE (fin_ext _ base (1 + a.cnt)) (by omega) (by omega), h1.same.new, ?_⟩
  rw [(fin_fault x.2).1]
  rcases h1.ok with h12 | ⟨h0, hv⟩
  ·exact Or.inl h12
  ·exact Or.inr ⟨h0, hv.fin hr h1.same hm⟩
theorem plT_zero : ∀ (ns : List NR) (T : List Ty), (plT T ns).1 = 0 → plT T ns = (0, 0)
 | [], _, _ => rfl
 | n :: r, T, h => by
  simp only [plT] at h ⊢
  split at h
  ·rename_i h1; exact absurd h h1
  ·rename_i h1; rw [if_neg h1]; exact plT_zero r _ h
theorem plT_split {a b : List NR} {T : List Ty} (h : plT T (a ++ b) = (0, 0)) : plT T a = (0, 0) ∧ plT (tyRun T a) b = (0, 0) := by
 rw [plT_app] at h
 split at h
 ·rename_i h1; rw [h] at h1; exact absurd rfl h1
 ·rename_i h1
  exact ⟨plT_zero a T (by simpa using h1), h⟩
theorem plT_last {T : List Ty} {n : NR} (h : plT T [n] = (0, 0)) : vfT (T ++ [tyR T n]) n = 0 := by
 simp only [plT] at h
 split at h
 ·rename_i h1
  have := congrArg Prod.fst h
  exact this
 ·rename_i h1; simpa using h1
def EnvQ (G GR : TEnv) (sc : Sc) (T : List Ty) : Prop := ∀ s U, look G s = some U → ∃ (UR : Ty) (i : Nat), look GR s = some UR ∧ UR.bare = U ∧ findS sc s = (i : Int) ∧ T[i]? = some UR
theorem EnvQ.more {G GR : TEnv} {sc : Sc} {T : List Ty} (h : EnvQ G GR sc T) (X : List Ty) : EnvQ G GR sc (T ++ X) := fun s U hs => by
 obtain ⟨UR, i, h1, h2, h3, h4⟩ := h s U hs
 exact ⟨UR, i, h1, h2, h3, by rw [List.getElem?_append_left (List.getElem?_eq_some_iff.1 h4).1]; exact h4⟩
theorem EnvQ.snoc {G GR : TEnv} {sc : Sc} {T A : List Ty} {nm : List UInt8} {U UR : Ty} {c : Nat} (h : EnvQ G GR sc T) (hc : c = A.length + 1) (hu : UR.bare = U) : EnvQ (G ++ [(nm, U)]) (GR ++ [(nm, UR)]) (sc ++ [(nm, ((T.length + c : Nat) : Int) - 1)]) (T ++ (A ++ [UR])) := fun s V hs => by
 rw [look_snoc'] at hs
 rw [findS_snocO, look_snoc']
 by_cases e : nm = s
 ·rw [if_pos e] at hs
  rw [if_pos e, if_pos e]
  simp only [Option.some.injEq] at hs
  subst hs
  refine ⟨UR, T.length + A.length, rfl, hu, by omega, ?_⟩
  rw [List.getElem?_append_right (by omega), Nat.add_sub_cancel_left, List.getElem?_append_right (by omega), Nat.sub_self]; rfl
 ·rw [if_neg e] at hs
  rw [if_neg e, if_neg e]
  exact h.more _ s V hs
theorem run_root {T : List Ty} {ks : List NR} {A : List Ty} (n : NR) (hr : tyRun T ks = T ++ A) : tyRun T (ks ++ [n]) = T ++ (A ++ [tyR (T ++ A) n]) := by
 rw [tyRun_app, hr]
 simp only [tyRun, List.append_assoc]
def WOut (GR : TEnv) (e : PT) (U : Ty) (T : List Ty) (ns : List NR) : Prop := ∃ A U', A.length + 1 = e.cnt ∧ tyRun T ns = T ++ (A ++ [U']) ∧ U'.bare = U ∧ WTR GR e U'
theorem wout_root {GR : TEnv} {e : PT} {U : Ty} {T : List Ty} {ks : List NR} {A : List Ty} (n : NR) (U' : Ty) (hr : tyRun T ks = T ++ A) (hc : A.length + 1 = e.cnt) (hU : tyR (T ++ A) n = U') (hb : U'.bare = U) (hw : WTR GR e U') : WOut GR e U T (ks ++ [n]) :=
 ⟨A, U', hc, by rw [run_root _ hr, hU], hb, hw⟩
theorem WT.wtr {G : TEnv} {e : PT} {U : Ty} (h : WT G e U) : ∀ (GR : TEnv) (sc : Sc) (T : List Ty) (ns : List NR), NA sc e T.length ns → EnvQ G GR sc T → e.rgd → e.rg3 → plT T ns = (0, 0) → WOut GR e U T ns := by
 induction h with
 | num =>
  intro GR sc T ns hna _ hd _ hp
  simp only [NA] at hna
  subst hna
  simp only [PT.rgd] at hd
  refine ⟨[], .n, rfl, ?_, rfl, .num hd⟩
  simp [tyRun, tyR]
 | name hs =>
  intro GR sc T ns hna hE _ _ hp
  simp only [NA] at hna
  subst hna
  obtain ⟨UR, i, h1, h2, h3, h4⟩ := hE _ _ hs
  refine ⟨[], UR, rfl, ?_, h2, .name h1⟩
  have hk := known_more [] h4
  rw [List.append_nil] at hk
  simp only [tyRun, tyR, if_true, h3, hk, List.nil_append]
 | @let_ G p nm rg a b UA UB ha hb iha ihb =>
  intro GR sc T ns hna hE hd h3 hp
  simp only [PT.rgd, rgdL] at hd
  simp only [PT.rg3, rg3L] at h3
  simp only [NA, bodK, NAs, Bool.false_eq_true, if_false, if_true] at hna
  obtain ⟨ks, beh, ⟨a1, c1, hn1, ⟨a2, c2, hn2, ⟨_, rfl⟩, rfl⟩, rfl⟩, rfl⟩ := hna
  rw [List.append_nil] at hp ⊢
  obtain ⟨hp1, hp2⟩ := plT_split hp
  obtain ⟨hpa, hpb⟩ := plT_split hp1
  obtain ⟨A, U1, hA, hr1, hb1, hw1⟩ := iha GR sc T a1 hn1 hE hd.2.1 h3.2.1 hpa
  rw [hr1] at hpb
  have hl1 : (T ++ (A ++ [U1])).length = T.length + a.cnt := by rw [List.length_append, List.length_append, List.length_singleton, hA]
  obtain ⟨B, U2, hB, hr2, hb2, hw2⟩ := ihb _ _ (T ++ (A ++ [U1])) a2 (by rw [hl1]; exact hn2) (hE.snoc hA.symm hb1) hd.2.2.1 h3.2.2.1 hpb
  have hrr : tyRun T (a1 ++ a2) = T ++ ((A ++ [U1]) ++ (B ++ [U2])) := by rw [tyRun_app, hr1, hr2, List.append_assoc]
  have hk := kn2 T A B [] U1 U2 _ _ hA hB
  rw [List.append_nil] at hk
  have hcn : ((A ++ [U1]) ++ (B ++ [U2])).length + 1 = 1 + (a.cnt + (b.cnt + 0)) := by simp only [List.length_append, List.length_singleton]; omega
  refine wout_root _ U2 hrr hcn ?_ hb2 (.let_ hw1 hw2)
  simp only [tyR, fk_let, partsL, List.getD_cons_succ, List.getD_cons_zero]
  simp only [Nat.reduceEqDiff, if_false, if_true]
  exact hk.2
 | @pair G p nm rg a b UA UB ha hb hsz iha ihb =>
  intro GR sc T ns hna hE hd h3 hp
  simp only [PT.rgd, rgdL] at hd
  simp only [PT.rg3, rg3L] at h3
  simp only [NA, bodK, NAs, Bool.false_eq_true, if_false] at hna
  obtain ⟨ks, beh, ⟨a1, c1, hn1, ⟨a2, c2, hn2, ⟨_, rfl⟩, rfl⟩, rfl⟩, rfl⟩ := hna
  rw [List.append_nil] at hp ⊢
  obtain ⟨hp1, hp2⟩ := plT_split hp
  obtain ⟨hpa, hpb⟩ := plT_split hp1
  obtain ⟨A, U1, hA, hr1, hb1, hw1⟩ := iha GR sc T a1 hn1 hE hd.2.1 h3.2.1 hpa
  rw [hr1] at hpb
  have hl1 : (T ++ (A ++ [U1])).length = T.length + a.cnt := by rw [List.length_append, List.length_append, List.length_singleton, hA]
  obtain ⟨B, U2, hB, hr2, hb2, hw2⟩ := ihb GR sc (T ++ (A ++ [U1])) a2 (by rw [hl1]; exact hn2) (hE.more _) hd.2.2.1 h3.2.2.1 hpb
  have hrr : tyRun T (a1 ++ a2) = T ++ ((A ++ [U1]) ++ (B ++ [U2])) := by rw [tyRun_app, hr1, hr2, List.append_assoc]
  have hk := kn2 T A B [] U1 U2 _ _ hA hB
  rw [List.append_nil] at hk
  have hcn : ((A ++ [U1]) ++ (B ++ [U2])).length + 1 = 1 + (a.cnt + (b.cnt + 0)) := by simp only [List.length_append, List.length_singleton]; omega
  have hrn : valueL rg = ((valueL rg).toNat : Int) := by have := h3.1; omega
  refine wout_root _ (.p (valueL rg).toNat U1 U2) hrr hcn ?_ ?_ (.pair hrn hw1 hw2)
  ·simp only [tyR, fk_pair, partsL, List.getD_cons_succ, List.getD_cons_zero]
   simp only [Nat.reduceEqDiff, if_false, if_true]
   rw [hk.1, hk.2]
  ·simp only [Ty.bare, hb1, hb2]
 | @fst G p nm rg a UA UB ha iha =>
  intro GR sc T ns hna hE hd h3 hp
  simp only [PT.rgd, rgdL] at hd
  simp only [PT.rg3, rg3L] at h3
  simp only [NA, bodK, NAs, Bool.false_eq_true, if_false] at hna
  obtain ⟨ks, beh, ⟨a1, c1, hn1, ⟨_, rfl⟩, rfl⟩, rfl⟩ := hna
  rw [List.append_nil] at hp ⊢
  obtain ⟨hp1, hp2⟩ := plT_split hp
  obtain ⟨A, U1, hA, hr1, hb1, hw1⟩ := iha GR sc T a1 hn1 hE hd.2.1 h3.2.1 hp1
  have hk := fun X => known_last T A X U1 _ hA.symm
  have hk0 := hk []
  rw [List.append_nil] at hk0
  have hcn : (A ++ [U1]).length + 1 = 1 + (a.cnt + 0) := by simp only [List.length_append, List.length_singleton]; omega
  obtain ⟨r, u, v, rfl, hu, hv⟩ := bare_pair hb1
  refine wout_root _ u hr1 hcn ?_ hu (.fst hw1)
  simp only [tyR, fk_fst, partsL, List.getD_cons_zero]
  simp only [Nat.reduceEqDiff, if_false, if_true]
  rw [hk0]; rfl
 | @snd G p nm rg a UA UB ha iha =>
  intro GR sc T ns hna hE hd h3 hp
  simp only [PT.rgd, rgdL] at hd
  simp only [PT.rg3, rg3L] at h3
  simp only [NA, bodK, NAs, Bool.false_eq_true, if_false] at hna
  obtain ⟨ks, beh, ⟨a1, c1, hn1, ⟨_, rfl⟩, rfl⟩, rfl⟩ := hna
  rw [List.append_nil] at hp ⊢
  obtain ⟨hp1, hp2⟩ := plT_split hp
  obtain ⟨A, U1, hA, hr1, hb1, hw1⟩ := iha GR sc T a1 hn1 hE hd.2.1 h3.2.1 hp1
  have hk := fun X => known_last T A X U1 _ hA.symm
  have hk0 := hk []
  rw [List.append_nil] at hk0
  have hcn : (A ++ [U1]).length + 1 = 1 + (a.cnt + 0) := by simp only [List.length_append, List.length_singleton]; omega
  obtain ⟨r, u, v, rfl, hu, hv⟩ := bare_pair hb1
  refine wout_root _ v hr1 hcn ?_ hv (.snd hw1)
  simp only [tyR, fk_snd, partsL, List.getD_cons_zero]
  simp only [Nat.reduceEqDiff, if_false, if_true]
  rw [hk0]; rfl
 | @if_ G p nm rg a b c U ha hb hc iha ihb ihc =>
  intro GR sc T ns hna hE hd h3 hp
  simp only [PT.rgd, rgdL] at hd
  simp only [PT.rg3, rg3L] at h3
  simp only [NA, bodK, NAs, Bool.false_eq_true, if_false] at hna
  obtain ⟨ks, beh, ⟨a1, c1, hn1, ⟨a2, c2, hn2, ⟨a3, c3, hn3, ⟨_, rfl⟩, rfl⟩, rfl⟩, rfl⟩, rfl⟩ := hna
  rw [List.append_nil] at hp ⊢
  obtain ⟨hp1, hp2⟩ := plT_split hp
  obtain ⟨hpa, hpbc⟩ := plT_split hp1
  obtain ⟨A, U1, hA, hr1, hb1, hw1⟩ := iha GR sc T a1 hn1 hE hd.2.1 h3.2.1 hpa
  rw [hr1] at hpbc
  obtain ⟨hpb, hpc⟩ := plT_split hpbc
  have hl1 : (T ++ (A ++ [U1])).length = T.length + a.cnt := by rw [List.length_append, List.length_append, List.length_singleton, hA]
  obtain ⟨B, U2, hB, hr2, hb2, hw2⟩ := ihb GR sc (T ++ (A ++ [U1])) a2 (by rw [hl1]; exact hn2) (hE.more _) hd.2.2.1 h3.2.2.1 hpb
  rw [hr2] at hpc
  have hl2 : (T ++ (A ++ [U1]) ++ (B ++ [U2])).length = T.length + a.cnt + b.cnt := by rw [List.length_append, hl1, List.length_append, List.length_singleton, hB]
  obtain ⟨C, U3, hC, hr3, hb3, hw3⟩ := ihc GR sc (T ++ (A ++ [U1]) ++ (B ++ [U2])) a3 (by rw [hl2]; exact hn3) ((hE.more _).more _) hd.2.2.2.1 h3.2.2.2.1 hpc
  have hrr : tyRun T (a1 ++ (a2 ++ a3)) = T ++ ((A ++ [U1]) ++ ((B ++ [U2]) ++ (C ++ [U3]))) := by rw [tyRun_app, hr1, tyRun_app, hr2, hr3]; simp only [List.append_assoc]
  have hk := fun X => kn3 T A B C X U1 U2 U3 _ _ _ hA hB hC
  have hk0 := hk []
  rw [List.append_nil] at hk0
  have hcn : ((A ++ [U1]) ++ ((B ++ [U2]) ++ (C ++ [U3]))).length + 1 = 1 + (a.cnt + (b.cnt + (c.cnt + 0))) := by simp only [List.length_append, List.length_singleton]; omega
  rw [hrr] at hp2
  have hv := plT_last hp2
  simp only [vfT, fk_if, true_or, if_true, partsL, List.getD_cons_succ, List.getD_cons_zero] at hv
  rw [(hk _).2.1, (hk _).2.2] at hv
  have h23 : U2 = U3 := by
   by_cases e : U2 = U3
   ·exact e
   ·rw [if_neg e] at hv; cases hv
  subst h23
  have h1n := bare_num hb1
  subst h1n
  refine wout_root _ U2 hrr hcn ?_ hb2 (.if_ hw1 hw2 hw3)
  simp only [tyR, fk_if, partsL, List.getD_cons_succ, List.getD_cons_zero]
  simp only [Nat.reduceEqDiff, if_false, if_true]
  exact hk0.2.1
 | @two G p k nm rg a b hkk ha hb iha ihb =>
  have hkb : bodK k = [false, false] := by rcases hkk with rfl | rfl | rfl <;> rfl
  have hkf : formK k = 8 ∨ formK k = 9 ∨ formK k = 10 := by rcases hkk with rfl | rfl | rfl <;> decide
  intro GR sc T ns hna hE hd h3 hp
  simp only [PT.rgd, rgdL] at hd
  simp only [PT.rg3, rg3L] at h3
  simp only [NA, hkb, NAs, Bool.false_eq_true, if_false] at hna
  obtain ⟨ks, beh, ⟨a1, c1, hn1, ⟨a2, c2, hn2, ⟨_, rfl⟩, rfl⟩, rfl⟩, rfl⟩ := hna
  rw [List.append_nil] at hp ⊢
  obtain ⟨hp1, hp2⟩ := plT_split hp
  obtain ⟨hpa, hpb⟩ := plT_split hp1
  obtain ⟨A, U1, hA, hr1, hb1, hw1⟩ := iha GR sc T a1 hn1 hE hd.2.1 h3.2.1 hpa
  rw [hr1] at hpb
  have hl1 : (T ++ (A ++ [U1])).length = T.length + a.cnt := by rw [List.length_append, List.length_append, List.length_singleton, hA]
  obtain ⟨B, U2, hB, hr2, hb2, hw2⟩ := ihb GR sc (T ++ (A ++ [U1])) a2 (by rw [hl1]; exact hn2) (hE.more _) hd.2.2.1 h3.2.2.1 hpb
  have hrr : tyRun T (a1 ++ a2) = T ++ ((A ++ [U1]) ++ (B ++ [U2])) := by rw [tyRun_app, hr1, hr2, List.append_assoc]
  have hk := kn2 T A B [] U1 U2 _ _ hA hB
  rw [List.append_nil] at hk
  have hcn : ((A ++ [U1]) ++ (B ++ [U2])).length + 1 = 1 + (a.cnt + (b.cnt + 0)) := by simp only [List.length_append, List.length_singleton]; omega
  have h1n := bare_num hb1
  have h2n := bare_num hb2
  subst h1n
  subst h2n
  refine wout_root _ .n hrr hcn ?_ rfl (.two hkk hw1 hw2)
  simp only [tyR]
  rcases hkf with h | h | h <;> simp [h]
 | @loop G p nm rg a b c U ha hb hc iha ihb ihc =>
  intro GR sc T ns hna hE hd h3 hp
  simp only [PT.rgd, rgdL] at hd
  simp only [PT.rg3, rg3L] at h3
  simp only [NA, bodK, NAs, Bool.false_eq_true, if_false, if_true] at hna
  obtain ⟨ks, beh, ⟨a1, c1, hn1, ⟨a2, c2, hn2, ⟨a3, c3, hn3, ⟨_, rfl⟩, rfl⟩, rfl⟩, rfl⟩, rfl⟩ := hna
  rw [List.append_nil] at hp ⊢
  obtain ⟨hp1, hp2⟩ := plT_split hp
  obtain ⟨hpa, hpbc⟩ := plT_split hp1
  obtain ⟨A, U1, hA, hr1, hb1, hw1⟩ := iha GR sc T a1 hn1 hE hd.2.1 h3.2.1 hpa
  rw [hr1] at hpbc
  obtain ⟨hpb, hpc⟩ := plT_split hpbc
  have hl1 : (T ++ (A ++ [U1])).length = T.length + a.cnt := by rw [List.length_append, List.length_append, List.length_singleton, hA]
  obtain ⟨B, U2, hB, hr2, hb2, hw2⟩ := ihb GR sc (T ++ (A ++ [U1])) a2 (by rw [hl1]; exact hn2) (hE.more _) hd.2.2.1 h3.2.2.1 hpb
  rw [hr2] at hpc
  have hl2 : (T ++ (A ++ [U1]) ++ (B ++ [U2])).length = T.length + a.cnt + b.cnt := by rw [List.length_append, hl1, List.length_append, List.length_singleton, hB]
  have hE2 := (hE.more (A ++ [U1])).snoc (nm := nm) hB.symm hb2
  rw [hl1] at hE2
  obtain ⟨C, U3, hC, hr3, hb3, hw3⟩ := ihc (GR ++ [(nm, U2)]) _ (T ++ (A ++ [U1]) ++ (B ++ [U2])) a3 (by rw [hl2]; exact hn3) (hE2) hd.2.2.2.1 h3.2.2.2.1 hpc
  have hrr : tyRun T (a1 ++ (a2 ++ a3)) = T ++ ((A ++ [U1]) ++ ((B ++ [U2]) ++ (C ++ [U3]))) := by rw [tyRun_app, hr1, tyRun_app, hr2, hr3]; simp only [List.append_assoc]
  have hk := fun X => kn3 T A B C X U1 U2 U3 _ _ _ hA hB hC
  have hk0 := hk []
  rw [List.append_nil] at hk0
  have hcn : ((A ++ [U1]) ++ ((B ++ [U2]) ++ (C ++ [U3]))).length + 1 = 1 + (a.cnt + (b.cnt + (c.cnt + 0))) := by simp only [List.length_append, List.length_singleton]; omega
  rw [hrr] at hp2
  have hv := plT_last hp2
  simp only [vfT, fk_loop, or_true, if_true, partsL, List.getD_cons_succ, List.getD_cons_zero] at hv
  rw [(hk _).2.1, (hk _).2.2] at hv
  have h23 : U2 = U3 := by
   by_cases e : U2 = U3
   ·exact e
   ·rw [if_neg e] at hv; cases hv
  subst h23
  have h1n := bare_num hb1
  subst h1n
  refine wout_root _ U2 hrr hcn ?_ hb2 (.loop hw1 hw2 hw3)
  simp only [tyR, fk_loop, partsL, List.getD_cons_succ, List.getD_cons_zero]
  simp only [Nat.reduceEqDiff, if_false, if_true]
  exact hk0.2.1
 | @new G p nm rg a U ha iha =>
  intro GR sc T ns hna hE hd h3 hp
  simp only [PT.rgd, rgdL] at hd
  simp only [PT.rg3, rg3L] at h3
  simp only [NA, bodK, NAs, Bool.false_eq_true, if_false] at hna
  obtain ⟨ks, beh, ⟨a1, c1, hn1, ⟨_, rfl⟩, rfl⟩, rfl⟩ := hna
  rw [List.append_nil] at hp ⊢
  obtain ⟨hp1, hp2⟩ := plT_split hp
  obtain ⟨A, U1, hA, hr1, hb1, hw1⟩ := iha GR sc T a1 hn1 hE hd.2.1 h3.2.1 hp1
  have hk := fun X => known_last T A X U1 _ hA.symm
  have hk0 := hk []
  rw [List.append_nil] at hk0
  have hcn : (A ++ [U1]).length + 1 = 1 + (a.cnt + 0) := by simp only [List.length_append, List.length_singleton]; omega
  rw [hr1] at hp2
  have hv := plT_last hp2
  simp only [vfT, fk_new, partsL, List.getD_cons_zero] at hv
  simp only [Nat.reduceEqDiff, or_self, if_false, if_true] at hv
  rw [hk _] at hv
  have hm : U1.has (valueL rg) = false := by
   cases hh : U1.has (valueL rg) with
   | false => rfl
   | true => rw [if_pos hh] at hv; cases hv
  refine wout_root _ U1 hr1 hcn ?_ hb1 (.new hw1 hm)
  simp only [tyR, fk_new, partsL, List.getD_cons_zero]
  simp only [Nat.reduceEqDiff, if_false, if_true]
  exact hk0
end Go.Proofs.YtpicaknklgccoabGreatDoor
namespace Go.Proofs.YtpicaknklgccoabGreatDoor
open Go.RowKit
theorem text_13 : ∀ (X : Vl) (v : MV) (m : MM), m.fault = 0 → (mText X v m).fault = 0 ∨ (mText X v m).fault = 13
 | .n _, _, m, h => Or.inl h
 | .p a b, v, m, h => by
  simp only [mText]
  have hu : (m.use v).2.fault = 0 ∨ (m.use v).2.fault = 13 := by
   unfold MM.use MM.stop
   split
   ·exact Or.inl h
   ·simp only; split
    ·exact Or.inl h
    ·first | exact Or.inr rfl | (rw [if_pos h]; exact Or.inr rfl)
  have h1 : (mText a (m.use v).1.a (m.use v).2).fault = 0 ∨ (mText a (m.use v).1.a (m.use v).2).fault = 13 := by
   rcases hu with hu | hu
   ·exact text_13 a _ _ hu
   ·rw [text_keep a _ _ (by rw [hu]; decide)]; exact Or.inr hu
  rcases h1 with h1 | h1
  ·exact text_13 b _ _ h1
  ·rw [text_keep b _ _ (by rw [h1]; decide)]; exact Or.inr h1
theorem text_live {m : MM} : ∀ {T : Ty} {X : Vl} {v : MV}, Rep m.cells X v → LiveR m T v → mText X v m = m
 | _, .n _, _, _, _ => rfl
 | .n, .p a b, v, hr, hl => by
  simp only [Rep] at hr
  simp only [LiveR] at hl
  rw [hr.1] at hl; exact absurd hl.1 (by decide)
 | .p r A B, .p a b, v, hr, hl => by
  obtain ⟨u1, u2, u3⟩ := use_lv hl
  simp only [LiveR] at hl
  obtain ⟨hc, i, c, g, hv, hi, h3, h4, _, _, _⟩ := hl
  simp only [Rep] at hr
  obtain ⟨_, i', c', hv', hi', ha, hb⟩ := hr
  have hii : i' = i := by omega
  subst hii
  have hcc : c' = c := by rw [hi] at hi'; exact (Option.some.inj hi').symm
  subst hcc
  have e2 : m.cells.getD v.n.toNat c0 = c' := by rw [hv, Int.toNat_natCast, List.getD_eq_getElem?_getD, hi]; rfl
  have hil := (List.getElem?_eq_some_iff.1 hi).1
  have e1 : (m.use v).1 = c' := by
   unfold MM.use
   rw [if_neg (by rw [hc, hv]; simp; omega), e2]
  simp only [mText]
  rw [u1, e1]
  rw [e1] at u2 u3
  rw [text_live ha u2, text_live hb u3]
def RunAns (R : Vl × ESt) (v : Value) (E : Nat) : Prop :=
 (E = 13 ∧ v = .agg #[.string ⟨#[]⟩, .int .i64 0, .int .i64 0, .int .i64 0, .int .i64 0]) ∨ (R.2.e = 12 ∧ E = 12 ∧ v = .agg #[.string ⟨#[]⟩, .int .i64 0, .int .i64 0, .int .i64 0, .int .i64 0]) ∨
  (R.2.e = 0 ∧ E = 0 ∧ ∃ c d : Int, v = .agg #[.string (bs R.1.txt), .int .i64 R.2.steps, .int .i64 R.2.cells, .int .i64 c, .int .i64 d])
theorem run_any (fuel k : Nat) {t : PT} {T : Ty} (hwt : WT [] t T) (hT : T.size ≤ 63) (hr : t.rgd) (hk : t.cnt ≤ k) :
  ∃ X, Rep (mW fuel t [] 0 ((m0 k).opn (-1))).2.cells X (mW fuel t [] 0 ((m0 k).opn (-1))).1 ∧ X.size ≤ 63 ∧
   RunAns (ev fuel t.era [] ⟨0, 0, 0⟩) (runV (mText X (mW fuel t [] 0 ((m0 k).opn (-1))).1 (mW fuel t [] 0 ((m0 k).opn (-1))).2) X) (mText X (mW fuel t [] 0 ((m0 k).opn (-1))).1 (mW fuel t [] 0 ((m0 k).opn (-1))).2).fault ∧
   (∀ T', WTR [] t T' → (mText X (mW fuel t [] 0 ((m0 k).opn (-1))).1 (mW fuel t [] 0 ((m0 k).opn (-1))).2).fault ≠ 13) := by
 have hlen : ((m0 k).opn (-1)).named.length = k := by simp [m0, MM.opn]
 have her : ER ((m0 k).opn (-1)).named ((m0 k).opn (-1)).cells [] [] [] 0 := fun s T h => by simp [look] at h
 have hs0 : Sw fuel ⟨0, 0, 0⟩ ((m0 k).opn (-1)) := ⟨rfl, rfl, rfl, Nat.zero_le _, rfl, by simp [m0, MM.opn]⟩
 have hf := mW_fits fuel hwt [] 0 ((m0 k).opn (-1)) hr her.ef (by rw [hlen]; omega)
 have hsim := mW_evW fuel hwt [] 0 ((m0 k).opn (-1)) [] ⟨0, 0, 0⟩ hr her (by rw [hlen]; omega) hs0
 have hlv : ∀ T', WTR [] t T' → LvO ((m0 k).opn (-1)) (mW fuel t [] 0 ((m0 k).opn (-1))) 0 t.cnt T' := fun T' h => mW_live fuel h [] 0 ((m0 k).opn (-1)) (fun s U hs => by simp [look] at hs) (by rw [hlen]; omega) rfl (by simp [m0, MM.opn])
 generalize mW fuel t [] 0 ((m0 k).opn (-1)) = x at hf hsim hlv ⊢
 generalize ev fuel t.era [] ⟨0, 0, 0⟩ = y at hsim ⊢
 rcases hsim with ⟨h1, h2, h3⟩ | hB | hD
 ·refine ⟨y.1, h2, by rw [rep_size (cells := x.2.cells) h3]; exact hT, ?_, fun T' hw => ?_⟩
  ·obtain ⟨c1, _, _, c4, _, _⟩ := text_same y.1 x.1 x.2
   rcases text_13 y.1 x.1 x.2 h1.f with h0 | h13
   ·right; right
    refine ⟨h1.e, h0, (mText y.1 x.1 x.2).most, (mText y.1 x.1 x.2).live, ?_⟩
    unfold runV
    rw [if_neg (fun h => h h0), c4, c1, h1.s, h1.c]
   ·left
    refine ⟨h13, ?_⟩
    unfold runV
    rw [if_pos (by rw [h13]; decide)]
  ·rcases (hlv T' hw).ok with h12 | ⟨h0, hl⟩
   ·rw [h1.f] at h12; cases h12
   ·rw [text_live h2 hl, h0]; decide
 ·obtain ⟨X, hX, hXs⟩ := fits_rp hf.2
  have hne : x.2.fault ≠ 0 := by rw [hB.2]; decide
  refine ⟨X, hX, by omega, ?_, fun T' hw => ?_⟩
  ·right; left
   rw [text_keep X x.1 x.2 hne]
   refine ⟨hB.1, hB.2, ?_⟩
   unfold runV
   rw [if_pos hne]
  ·rw [text_keep X x.1 x.2 hne, hB.2]; decide
 ·obtain ⟨X, hX, hXs⟩ := fits_rp hf.2
  have hne : x.2.fault ≠ 0 := by rw [hD]; decide
  refine ⟨X, hX, by omega, ?_, fun T' hw => ?_⟩
  ·left
   rw [text_keep X x.1 x.2 hne]
   refine ⟨hD, ?_⟩
   unfold runV
   rw [if_pos hne]
  ·rcases (hlv T' hw).ok with h12 | ⟨h0, _⟩
   ·rw [hD] at h12; cases h12
   ·rw [hD] at h0; cases h0
theorem leaseRun_placed (s : ByteArray) (hs : s.size ≤ 9000) (e : PT) (U : Ty) (hp : PE true (tokens s.data.toList) e []) (hc : chkAns e = (0, 0)) (hwt : WT [] e U) (hU : U.size ≤ 63) (fuel : Nat) (hf : fuel ≤ 20000) :
  ∃ (v : Value) (E : Nat), RunAns (ev fuel e.era [] ⟨0, 0, 0⟩) v E ∧ (∀ T', WTR [] e T' → E ≠ 13) ∧ ∀ w, Lib.TabIs Tryz.prog w "internal/strconv.uint64pow10" .u64 Lib.pow10Tab → Calls Tryz.prog 13 #[.string s, .int .i64 fuel] w fun r w' => r = .returned (.tuple #[v, .int .i64 E]) ∧ Below w.heap.size w w' := by
 have hwf := hp.wf
 have hcnt := Study_len hp
 have hrg := rgdO_of e (hp.tame (tokens_tame _)).1 (hp.rg3 (tokens_rg _)).1
 obtain ⟨X, hX, hXs, hans, h13⟩ := run_any fuel e.cnt hwt hU hrg (Nat.le_refl _)
 refine ⟨_, _, hans, h13, fun w htab => ?_⟩
 obtain ⟨S, a, b, c, d, hV⟩ : ∃ S a b c d, runV (mText X (mW fuel e [] 0 ((m0 e.cnt).opn (-1))).1 (mW fuel e [] 0 ((m0 e.cnt).opn (-1))).2) X = .agg #[.string S, .int .i64 a, .int .i64 b, .int .i64 c, .int .i64 d] := by
  unfold runV; split
  ·exact ⟨_, _, _, _, _, rfl⟩
  ·exact ⟨_, _, _, _, _, rfl⟩
 rw [hV]
 refine leaseRun_ok s fuel w e 0 S a b c d _ (fun w => ?_) (fun w' x1 n1 c1 x2 n2 c2 ns hb hTr hna => ?_)
 ·have := readPlaced_full s w hs e hp
  rw [hc] at this
  exact this
 ·have hnl := hna.len
  refine run_ok w' x1 n1 c1 x2 n2 c2 fuel hf S a b c d _ (fun w'' hb'' => ?_)
  have := Run_any x1 n1 c1 x2 n2 c2 fuel ns (opn e 0) hf (by omega) w'' (hTr.below hb'') (Lib.tabBelow_of_tabIs htab w'' (hb.trans (hb''.mono hb.size))) e hna.showsM0 hwf hrg hnl.symm _ rfl X (by rw [hnl]; exact hX) hXs
  rw [hnl] at this
  rw [hV] at this
  exact this
end Go.Proofs.YtpicaknklgccoabGreatDoor
