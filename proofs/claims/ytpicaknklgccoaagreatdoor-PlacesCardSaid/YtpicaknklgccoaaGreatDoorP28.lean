import Derived.Test.YtpicaknklgccoaaGreatDoorP27
import Derived.Laws.CopyOwn
namespace Go.Proofs.YtpicaknklgccoaaGreatDoor
def posOf (len : Nat) : List Tk → Nat
 | [] => len
 | t :: _ => t.at_
theorem posOf_cons (len : Nat) (t : Tk) (r : List Tk) : posOf len (t :: r) = t.at_ := rfl
theorem posOf_nil (len : Nat) : posOf len [] = len := rfl
def TkOk (len : Nat) : List Tk → Prop
 | [] => True
 | t :: r => 0 < t.s.length ∧ t.at_ + t.s.length ≤ posOf len r ∧ TkOk len r
theorem toks_okU (len : Nat) : ∀ (f p : Nat) (l : List UInt8), p + l.length = len → TkOk len (toks f p l) ∧ p ≤ posOf len (toks f p l)
 | 0, p, l, h => by simp only [toks, TkOk, posOf_nil, true_and]; omega
 | f + 1, p, [], h => by simp only [toks, TkOk, posOf_nil, true_and]; simp at h; omega
 | f + 1, p, c :: r, h => by
  simp only [List.length_cons] at h
  simp only [toks]
  split
  ·have := toks_okU len f (p + 1) r (by omega)
   exact ⟨this.1, by omega⟩
  ·have hp := tokenOf_pos (c :: r)
   have hl := tokenOf_le (c :: r) (by simp)
   simp only [List.length_cons] at hl
   have := toks_okU len f (p + (tokenOf (c :: r)).1) ((c :: r).drop (tokenOf (c :: r)).1) (by simp only [List.length_drop, List.length_cons]; omega)
   simp only [TkOk, posOf_cons, List.length_take, List.length_cons]
   exact ⟨⟨by omega, by omega, this.1⟩, Nat.le_refl _⟩
theorem tokens_okU (l : List UInt8) : TkOk l.length (tokens l) := (toks_okU l.length l.length 0 l (by omega)).1
mutual
def PosN : PT → List NR → Nat → Nat → Prop
 | .num p _, ns, lo, hi => ∃ n, ns = [n] ∧ n.at_ = p ∧ lo ≤ p ∧ p < n.beh ∧ n.beh ≤ hi
 | .name p _, ns, lo, hi => ∃ n, ns = [n] ∧ n.at_ = p ∧ lo ≤ p ∧ p < n.beh ∧ n.beh ≤ hi
 | .node p _ _ _ kids, ns, lo, hi => ∃ ks n, ns = ks ++ [n] ∧ n.at_ = p ∧ lo ≤ p ∧ PosNs kids ks (p + 1) n.beh ∧ p < n.beh ∧ n.beh ≤ hi
def PosNs : List PT → List NR → Nat → Nat → Prop
 | [], ns, lo, hi => ns = [] ∧ lo ≤ hi
 | t :: r, ns, lo, hi => ∃ a c mid, ns = a ++ c ∧ PosN t a lo mid ∧ PosNs r c mid hi
end
theorem PosN.lo {t : PT} {ns : List NR} {lo lo' hi : Nat} (h : PosN t ns lo hi) (hl : lo' ≤ lo) : PosN t ns lo' hi := by
 cases t with
 | num p s => simp only [PosN] at h ⊢; obtain ⟨n, h1, h2, h3, h4⟩ := h; exact ⟨n, h1, h2, by omega, h4⟩
 | name p s => simp only [PosN] at h ⊢; obtain ⟨n, h1, h2, h3, h4⟩ := h; exact ⟨n, h1, h2, by omega, h4⟩
 | node p k nm rg kids => simp only [PosN] at h ⊢; obtain ⟨ks, n, h1, h2, h3, h4⟩ := h; exact ⟨ks, n, h1, h2, by omega, h4⟩
theorem PosNs.lo {ts : List PT} {ns : List NR} {lo lo' hi : Nat} (h : PosNs ts ns lo hi) (hl : lo' ≤ lo) : PosNs ts ns lo' hi := by
 cases ts with
 | nil => simp only [PosNs] at h ⊢; exact ⟨h.1, by omega⟩
 | cons t r => simp only [PosNs] at h ⊢; obtain ⟨a, c, mid, h1, h2, h3⟩ := h; exact ⟨a, c, mid, h1, h2.lo hl, h3⟩
theorem PosNs.hi : ∀ {ts : List PT} {ns : List NR} {lo hi hi' : Nat}, PosNs ts ns lo hi → hi ≤ hi' → PosNs ts ns lo hi'
 | [], _, _, _, _, h, hl => by simp only [PosNs] at h ⊢; exact ⟨h.1, by omega⟩
 | t :: r, _, _, _, _, h, hl => by simp only [PosNs] at h ⊢; obtain ⟨a, c, mid, h1, h2, h3⟩ := h; exact ⟨a, c, mid, h1, h2, h3.hi hl⟩
theorem PosN.lt {t : PT} {ns : List NR} {lo hi : Nat} (h : PosN t ns lo hi) : lo < hi := by
 cases t with
 | num p s => simp only [PosN] at h; obtain ⟨n, h1, h2, h3, h4⟩ := h; omega
 | name p s => simp only [PosN] at h; obtain ⟨n, h1, h2, h3, h4⟩ := h; omega
 | node p k nm rg kids => simp only [PosN] at h; obtain ⟨ks, n, h1, h2, h3, h4⟩ := h; omega
theorem PosNs.le : ∀ {ts : List PT} {ns : List NR} {lo hi : Nat}, PosNs ts ns lo hi → lo ≤ hi
 | [], _, _, _, h => by simp only [PosNs] at h; exact h.2
 | t :: r, _, _, _, h => by simp only [PosNs] at h; obtain ⟨a, c, mid, h1, h2, h3⟩ := h; have := h2.lt; have := h3.le; omega
def YesP (placed : Bool) (len : Nat) (pE : PS → Int × PS) (m : Nat) : Prop := ∀ (l : List Tk) (e : PT) (r : List Tk), PE placed l e r → l.length ≤ m → TkOk len l → ∀ st : PS, st.l = l → st.fl = none →
 ∃ ns, (pE st).2.nodes = st.nodes ++ ns ∧ PosN e ns (posOf len l) (posOf len r)
theorem body_pos {placed : Bool} {len : Nat} {pE : PS → Int × PS} {m : Nat} (hY : YesP placed len pE m) (w : List UInt8) (src : Int) {l : List Tk} {e : PT} {r : List Tk} (h : PE placed l e r) (hm : l.length ≤ m) (ht : TkOk len l) (st : PS) (hl : st.l = l) (hf : st.fl = none) :
  ∃ ns, (pBody pE w src st).2.nodes = st.nodes ++ ns ∧ PosN e ns (posOf len l) (posOf len r) := hY l e r h hm ht { st with scope := st.scope ++ [(w, src)] } hl hf
mutual
theorem PE.tkok {placed : Bool} {len : Nat} : ∀ {l : List Tk} {e : PT} {r : List Tk}, PE placed l e r → TkOk len l → TkOk len r ∧ posOf len l ≤ posOf len r
 | _, _, _, .num _, h => by simp only [TkOk] at h; exact ⟨h.2.2, by simp only [posOf_cons]; omega⟩
 | _, _, _, .name _, h => by simp only [TkOk] at h; exact ⟨h.2.2, by simp only [posOf_cons]; omega⟩
 | _, _, _, .node _ _ _ h4, h => by
  simp only [TkOk] at h
  have := PW.tkok h4 h.2.2.2.2
  have h1 := h.2.1
  simp only [posOf_cons] at h1 ⊢
  exact ⟨this.1, by omega⟩
theorem PW.tkok {placed : Bool} {len : Nat} : ∀ {ws : List Wt} {l : List Tk} {nm rg : List UInt8} {kids : List PT} {r : List Tk}, PW placed ws l nm rg kids r → TkOk len l → TkOk len r ∧ posOf len l ≤ posOf len r
 | _, _, _, _, _, _, .nil, h => ⟨h, Nat.le_refl _⟩
 | _, _, _, _, _, _, .close _ h1, h => by simp only [TkOk] at h; have := PW.tkok h1 h.2.2; simp only [posOf_cons]; exact ⟨this.1, by omega⟩
 | _, _, _, _, _, _, .name _ h1, h => by simp only [TkOk] at h; have := PW.tkok h1 h.2.2; simp only [posOf_cons]; exact ⟨this.1, by omega⟩
 | _, _, _, _, _, _, .region _ h1, h => by simp only [TkOk] at h; have := PW.tkok h1 h.2.2; simp only [posOf_cons]; exact ⟨this.1, by omega⟩
 | _, _, _, _, _, _, .e h0 h1, h => by have a := PE.tkok h0 h; have b := PW.tkok h1 a.1; exact ⟨b.1, by omega⟩
end
theorem ins_pos {placed : Bool} (len : Nat) {pE : PS → Int × PS} {m : Nat} (hY : YesE placed pE m) (hP : YesP placed len pE m) : ∀ (is : List Ins) (l : List Tk) (nm rg : List UInt8) (kids : List PT) (r : List Tk), PW placed (is.map Ins.wt ++ [.close]) l nm rg kids r →
  l.length ≤ m → TkOk len l → ∀ (st : PS) (fs : FS), st.l = l → st.fl = none →
  ∃ t ns, (pIns len pE is fs st).2.l = t :: r ∧ (pIns len pE is fs st).2.nodes = st.nodes ++ ns ∧ PosNs kids ns (posOf len l) t.at_ ∧ 0 < t.s.length ∧ t.at_ + t.s.length ≤ posOf len r := by
 intro is
 induction is with
 | nil =>
  intro l nm rg kids r h hm ht st fs hl hf
  simp only [List.map_nil, List.nil_append] at h
  cases h with
  | close hc h1 =>
   cases h1
   simp only [TkOk] at ht
   refine ⟨_, [], by simp only [pIns]; exact hl, by simp only [pIns, List.append_nil], ?_, ht.1, ht.2.1⟩
   simp only [PosNs, posOf_cons, true_and]; exact Nat.le_refl _
 | cons i is ih =>
  intro l nm rg kids r h hm ht st fs hl hf
  cases i with
  | name =>
   simp only [List.map_cons, Ins.wt, List.cons_append] at h
   cases h with
   | name hc h1 =>
    rename_i t r1 nm1
    simp only [List.length_cons] at hm
    simp only [TkOk] at ht
    have hk : (tk1 len st.l).kind = 4 := by rw [hl]; exact (kindN_nam _).2 hc
    have hex : st.expect len 4 = { st with l := r1 } := by
     unfold PS.expect; rw [if_neg (by simp [hk])]; simp [PS.tail, hl]
    obtain ⟨t', ns, h2, h3, h4, h5⟩ := ih r1 nm1 rg kids r h1 (by omega) ht.2.2 { st with l := r1 } { fs with word := (tk1 len st.l).word } rfl hf
    refine ⟨t', ns, ?_, ?_, h4.lo (by simp only [posOf_cons]; omega), h5⟩
    ·simp only [pIns]; rw [hex]; exact h2
    ·simp only [pIns]; rw [hex]; exact h3
  | region =>
   simp only [List.map_cons, Ins.wt, List.cons_append] at h
   cases h with
   | region hc h1 =>
    rename_i t r1 rg1
    simp only [List.length_cons] at hm
    simp only [TkOk] at ht
    have hk : (tk1 len st.l).kind = 6 := by rw [hl]; exact (kindN_reg _).2 hc
    have hex : st.expect len 6 = { st with l := r1 } := by
     unfold PS.expect; rw [if_neg (by simp [hk])]; simp [PS.tail, hl]
    obtain ⟨t', ns, h2, h3, h4, h5⟩ := ih r1 nm rg1 kids r h1 (by omega) ht.2.2 { st with l := r1 } { fs with region := (tk1 len st.l).num } rfl hf
    refine ⟨t', ns, ?_, ?_, h4.lo (by simp only [posOf_cons]; omega), h5⟩
    ·simp only [pIns]; rw [hex]; exact h2
    ·simp only [pIns]; rw [hex]; exact h3
  | e =>
   simp only [List.map_cons, Ins.wt, List.cons_append] at h
   cases h with
   | e he h1 =>
    rename_i e r1 kids1
    have hlt := he.len
    have htk := he.tkok ht
    obtain ⟨ns1, hn1, hp1⟩ := hY l e r1 he hm st hl hf
    obtain ⟨ns0, hq0, hpos⟩ := hP l e r1 he hm ht st hl hf
    obtain ⟨t', ns, h2, h3, h4, h5⟩ := ih r1 nm rg kids1 r h1 (by omega) htk.1 (pE st).2 { fs with parts := fs.parts ++ [(pE st).1] } (by rw [hp1]) (by rw [hp1]; exact hf)
    refine ⟨t', ns0 ++ ns, ?_, ?_, ?_, h5⟩
    ·simp only [pIns]; exact h2
    ·simp only [pIns]; rw [h3, hq0, List.append_assoc]
    ·simp only [PosNs]; exact ⟨ns0, ns, _, rfl, hpos, h4⟩
  | body =>
   simp only [List.map_cons, Ins.wt, List.cons_append] at h
   cases h with
   | e he h1 =>
    rename_i e r1 kids1
    have hlt := he.len
    have htk := he.tkok ht
    obtain ⟨ns1, hn1, hp1⟩ := body_yes hY fs.word (fs.parts.getLastD (-1)) he hm st hl hf
    obtain ⟨ns0, hq0, hpos⟩ := body_pos hP fs.word (fs.parts.getLastD (-1)) he hm ht st hl hf
    obtain ⟨t', ns, h2, h3, h4, h5⟩ := ih r1 nm rg kids1 r h1 (by omega) htk.1 (pBody pE fs.word (fs.parts.getLastD (-1)) st).2 { fs with parts := fs.parts ++ [(pBody pE fs.word (fs.parts.getLastD (-1)) st).1] } (by rw [hp1]) (by rw [hp1]; exact hf)
    refine ⟨t', ns0 ++ ns, ?_, ?_, ?_, h5⟩
    ·simp only [pIns]; exact h2
    ·simp only [pIns]; rw [h3, hq0, List.append_assoc]
    ·simp only [PosNs]; exact ⟨ns0, ns, _, rfl, hpos, h4⟩
theorem expr_pos (placed : Bool) (len : Nat) : ∀ n : Nat, YesP placed len (pExpr placed len n) n := by
 intro n
 induction n with
 | zero =>
  intro l e r h hm
  obtain ⟨t, r', he, _⟩ := h.suffix
  rw [he] at hm; simp at hm
 | succ m ih =>
  intro l e r h hm ht st hl hf
  cases h with
  | num hc =>
   rename_i t
   simp only [TkOk] at ht
   obtain ⟨ns, hn, hp⟩ := (expr_all placed len (m + 1)).1 _ _ _ (PE.num hc) hm st hl hf
   simp only [NA] at hn
   subst hn
   refine ⟨_, by rw [hp], ⟨_, rfl, rfl, Nat.le_refl _, ?_⟩⟩
   simp only; exact ⟨by omega, ht.2.1⟩
  | name hc =>
   rename_i t
   simp only [TkOk] at ht
   obtain ⟨ns, hn, hp⟩ := (expr_all placed len (m + 1)).1 _ _ _ (PE.name hc) hm st hl hf
   simp only [NA] at hn
   subst hn
   refine ⟨_, by rw [hp], ⟨_, rfl, rfl, Nat.le_refl _, ?_⟩⟩
   simp only; exact ⟨by omega, ht.2.1⟩
  | node hc hk hw h4 =>
   rename_i t u k r0 nm rg kids
   have hkf : ¬ (formN (kindN u.c) = 0 ∨ (formN (kindN u.c) = 12 ∧ placed = false)) := by
    rw [form_wants, hk]; exact hw
   rw [insK_wants k placed hw] at h4
   simp only [List.length_cons] at hm
   simp only [TkOk] at ht
   obtain ⟨c, ns, h1, h2, h3, h5, h6⟩ := ins_pos len (expr_all placed len m).1 ih (insK k placed) r0 nm rg kids r h4 (by omega) ht.2.2.2.2 { st with opened := st.opened ++ [-1], l := r0 } ⟨[], [], 0⟩ rfl hf
   obtain ⟨c', ns', h1', _, h3'⟩ := ins_yes len (expr_all placed len m).1 (insK k placed) r0 nm rg kids r h4 (insK_wf k placed) (by omega)
     { st with opened := st.opened ++ [-1], l := r0 } ⟨[], [], 0⟩ nm rfl hf (fun e => absurd e (insK_head k placed)) (by
      split
      ·rfl
      ·rename_i hn
       have : Wt.name ∉ (insK k placed).map Ins.wt ++ [.close] := by
        intro hh
        rcases List.mem_append.1 hh with hh | hh
        ·obtain ⟨i, hi, e⟩ := List.mem_map.1 hh
         cases i with
         | name => exact hn (by simpa using hi)
         | _ => cases e
        ·simp at hh
       exact (PW.noname h4 this).symm)
   have hcc : c = c' := by rw [h3'] at h1; simp only at h1; cases h1; rfl
   subst hcc
   have h21 := ht.2.1
   simp only [posOf_cons] at h21
   have h22 := ht.2.2.2.1
   refine ⟨ns ++ [{ NR.filled ⟨formK k, t.at_, t.at_ + t.s.length, 0, [], 0, -1, -1, -1, -1⟩ (pIns len (pExpr placed len m) (insK k placed) ⟨[], [], 0⟩ { st with opened := st.opened ++ [-1], l := r0 }).1 with beh := c.at_ + c.s.length }], ?_, ⟨ns, _, rfl, rfl, Nat.le_refl _, ?_, ?_, h6⟩⟩
   ·show (pSeat (pAny len (pBracket placed len (pExpr placed len m))) st).2.nodes = _
    unfold pSeat
    rw [any_open len _ { st with opened := st.opened ++ [-1] } hl hc]
    unfold pBracket
    have htk : tk1 len (u :: r0) = tnOf u := rfl
    simp only [htk]
    rw [if_neg (by simpa [tnOf] using hkf)]
    have hform : formN (tnOf u).kind = formK k := by simp [tnOf, hk, formK]
    rw [hform, pFill_ins placed len _ k hw]
    simp only [PS.tail, List.tail_cons]
    have hkc : (tk1 len (c :: r)).kind = 3 := (kindN_cls _).2 h1'
    simp only [PS.expect, h1, hkc]
    rw [if_neg (by simp)]
    simp only [PS.tail, PS.add, h2, List.append_assoc]
    rfl
   ·exact (h3.lo (by omega)).hi (by show c.at_ ≤ c.at_ + c.s.length; omega)
   ·have hlo : posOf len r0 ≤ c.at_ := h3.le
    show t.at_ < c.at_ + c.s.length
    omega
theorem fail_nodes (a : Nat) (st : PS) : (st.fail a).nodes = st.nodes := by unfold PS.fail; split <;> rfl
theorem expect_nodes (len k : Nat) (st : PS) : (st.expect len k).nodes = st.nodes := by
 unfold PS.expect
 split
 ·rw [fail_nodes]; rfl
 ·rfl
theorem prog_pos {placed : Bool} {len : Nat} {l : List Tk} {e : PT} (h : PE placed l e []) (ht : TkOk len l) : PosN e (pProg placed len l).nodes (posOf len l) len := by
 obtain ⟨ns, h1, h2⟩ := expr_pos placed len l.length l e [] h (Nat.le_refl _) ht (ps0 l) rfl rfl
 unfold pProg
 rw [expect_nodes, h1]
 exact h2
structure GoodL (X : List (Rec × NR)) (id c lo hi : Nat) : Prop where
 a : ∀ x ∈ X, id ≤ x.1.id ∧ x.1.id ≤ x.1.last ∧ x.1.last < id + c ∧ lo ≤ x.2.at_ ∧ x.2.at_ < x.2.beh ∧ x.2.beh ≤ hi
 b : ∀ x ∈ X, ∀ y ∈ X, (x.1.id < y.1.id ↔ x.2.at_ < y.2.at_) ∧ (y.1.id ≤ x.1.last ↔ y.2.at_ < x.2.beh)
theorem GoodL.app {X Y : List (Rec × NR)} {id c d lo mid hi : Nat} (hx : GoodL X id c lo mid) (hy : GoodL Y (id + c) d mid hi) (h1 : lo ≤ mid) (h2 : mid ≤ hi) : GoodL (X ++ Y) id (c + d) lo hi := by
 refine ⟨fun x hm => ?_, fun x hm y hn => ?_⟩
 ·rcases List.mem_append.1 hm with hm | hm
  ·have := hx.a x hm; omega
  ·have := hy.a x hm; omega
 ·rcases List.mem_append.1 hm with hm | hm
  ·rcases List.mem_append.1 hn with hn | hn
   ·exact hx.b x hm y hn
   ·have a1 := hx.a x hm
    have a2 := hy.a y hn
    exact ⟨⟨fun _ => by omega, fun _ => by omega⟩, ⟨fun _ => by omega, fun _ => by omega⟩⟩
  ·rcases List.mem_append.1 hn with hn | hn
   ·have a1 := hy.a x hm
    have a2 := hx.a y hn
    exact ⟨⟨fun _ => by omega, fun _ => by omega⟩, ⟨fun _ => by omega, fun _ => by omega⟩⟩
   ·exact hy.b x hm y hn
theorem GoodL.root {K : List (Rec × NR)} {id c lo hi : Nat} {r : Rec} {n : NR} (hk : GoodL K (id + 1) c (n.at_ + 1) n.beh) (h1 : r.id = id) (h2 : r.last = id + c) (h3 : lo ≤ n.at_) (h4 : n.at_ < n.beh) (h5 : n.beh ≤ hi) : GoodL (K ++ [(r, n)]) id (1 + c) lo hi := by
 refine ⟨fun x hm => ?_, fun x hm y hn => ?_⟩
 ·rcases List.mem_append.1 hm with hm | hm
  ·have := hk.a x hm; omega
  ·rw [List.mem_singleton] at hm; subst hm; simp only; omega
 ·rcases List.mem_append.1 hm with hm | hm
  ·rcases List.mem_append.1 hn with hn | hn
   ·exact hk.b x hm y hn
   ·rw [List.mem_singleton] at hn; subst hn
    have a1 := hk.a x hm
    simp only
    exact ⟨⟨fun _ => by omega, fun _ => by omega⟩, ⟨fun _ => by omega, fun _ => by omega⟩⟩
  ·rw [List.mem_singleton] at hm; subst hm
   rcases List.mem_append.1 hn with hn | hn
   ·have a1 := hk.a y hn
    simp only
    exact ⟨⟨fun _ => by omega, fun _ => by omega⟩, ⟨fun _ => by omega, fun _ => by omega⟩⟩
   ·rw [List.mem_singleton] at hn; subst hn
    simp only
    exact ⟨⟨fun _ => by omega, fun _ => by omega⟩, ⟨fun _ => by omega, fun _ => by omega⟩⟩
mutual
theorem PosN.good : ∀ {t : PT} {ns : List NR} {lo hi : Nat}, PosN t ns lo hi → ∀ (id site : Nat), ns.length = t.cnt ∧ GoodL ((t.recs id site).zip ns) id t.cnt lo hi
 | .num p s, ns, lo, hi, h, id, site => by
  simp only [PosN] at h
  obtain ⟨n, rfl, h1, h2, h3, h4⟩ := h
  refine ⟨rfl, ?_⟩
  simp only [PT.recs, List.zip_cons_cons, List.zip_nil_left, PT.cnt]
  exact GoodL.root (K := []) (c := 0) ⟨by simp, by simp⟩ rfl rfl (by omega) (by omega) h4
 | .name p s, ns, lo, hi, h, id, site => by
  simp only [PosN] at h
  obtain ⟨n, rfl, h1, h2, h3, h4⟩ := h
  refine ⟨rfl, ?_⟩
  simp only [PT.recs, List.zip_cons_cons, List.zip_nil_left, PT.cnt]
  exact GoodL.root (K := []) (c := 0) ⟨by simp, by simp⟩ rfl rfl (by omega) (by omega) h4
 | .node p k nm rg kids, ns, lo, hi, h, id, site => by
  simp only [PosN] at h
  obtain ⟨ks, n, rfl, h1, h2, h3, h4, h5⟩ := h
  have hk := PosNs.good h3 (id + 1) (site + if k = .pair then 1 else 0)
  refine ⟨by simp only [List.length_append, List.length_singleton, PT.cnt, hk.1]; omega, ?_⟩
  simp only [PT.recs, PT.cnt]
  rw [List.zip_append (by rw [recsL_len, hk.1])]
  simp only [List.zip_cons_cons, List.zip_nil_left]
  subst h1
  exact GoodL.root hk.2 rfl rfl h2 h4 h5
theorem PosNs.good : ∀ {ts : List PT} {ns : List NR} {lo hi : Nat}, PosNs ts ns lo hi → ∀ (id site : Nat), ns.length = cntL ts ∧ GoodL ((recsL ts id site).zip ns) id (cntL ts) lo hi
 | [], ns, lo, hi, h, id, site => by
  simp only [PosNs] at h
  rw [h.1]
  exact ⟨rfl, ⟨by simp [recsL], by simp [recsL]⟩⟩
 | t :: r, ns, lo, hi, h, id, site => by
  simp only [PosNs] at h
  obtain ⟨a, c, mid, rfl, h1, h2⟩ := h
  have ha := PosN.good h1 id site
  have hc := PosNs.good h2 (id + t.cnt) (site + t.prs)
  refine ⟨by simp only [List.length_append, cntL, ha.1, hc.1], ?_⟩
  simp only [recsL, cntL]
  rw [List.zip_append (by rw [recs_len, ha.1])]
  have l1 := h1.lt
  have l2 := h2.le
  exact GoodL.app ha.2 hc.2 (by omega) l2
end
structure Bri (r : Rec) (n : NR) : Prop where
 p : r.p = n.at_
 nw : n.form = 12 ↔ r.op = Kw.new.bytes
 pr : n.form = 4 ↔ r.op = Kw.pair.bytes
 rg : n.form = 12 ∨ n.form = 4 → n.region = r.n
 il : (n.form = 7 ∨ n.form = 11) ↔ (r.op = Kw.if_.bytes ∨ r.op = Kw.loop.bytes)
theorem bri_k (k : Kw) : (formK k = 12 ↔ k.bytes = Kw.new.bytes) ∧ (formK k = 4 ↔ k.bytes = Kw.pair.bytes) ∧ ((formK k = 7 ∨ formK k = 11) ↔ (k.bytes = Kw.if_.bytes ∨ k.bytes = Kw.loop.bytes)) := by cases k <;> decide
theorem Bri.node (k : Kw) (p : Nat) (nm rg : List UInt8) (a b c beh : Nat) (src p0 p1 p2 num : Int) : Bri ⟨k.bytes, p, nm, valueL rg, a, b, c⟩ ⟨formK k, p, beh, num, nm, valueL rg, src, p0, p1, p2⟩ :=
 ⟨rfl, (bri_k k).1, (bri_k k).2.1, fun _ => rfl, (bri_k k).2.2⟩
mutual
theorem NA.bri : ∀ {scope : Sc} {t : PT} {base : Nat} {ns : List NR}, NA scope t base ns → ∀ (id site : Nat), ∀ x ∈ (t.recs id site).zip ns, Bri x.1 x.2
 | _, .num p s, _, _, h, id, site, x, hx => by
  simp only [NA] at h; subst h
  simp only [PT.recs, List.zip_cons_cons, List.zip_nil_left, List.mem_singleton] at hx
  subst hx
  exact ⟨rfl, by simp only; decide, by simp only; decide, fun h => by simp at h, by simp only; decide⟩
 | _, .name p s, _, _, h, id, site, x, hx => by
  simp only [NA] at h; subst h
  simp only [PT.recs, List.zip_cons_cons, List.zip_nil_left, List.mem_singleton] at hx
  subst hx
  exact ⟨rfl, by simp only; decide, by simp only; decide, fun h => by simp at h, by simp only; decide⟩
 | _, .node p k nm rg kids, base, _, h, id, site, x, hx => by
  simp only [NA] at h
  obtain ⟨ks, beh, h1, rfl⟩ := h
  have hl := h1.len
  simp only [PT.recs] at hx
  rw [List.zip_append (by rw [recsL_len, hl])] at hx
  rcases List.mem_append.1 hx with hx | hx
  ·exact NAs.bri h1 _ _ x hx
  ·simp only [List.zip_cons_cons, List.zip_nil_left, List.mem_singleton] at hx
   subst hx
   exact Bri.node k p nm rg _ _ _ _ _ _ _ _ _
theorem NAs.bri : ∀ {scope : Sc} {nm : List UInt8} {ts : List PT} {bs : List Bool} {base : Nat} {ns : List NR}, NAs scope nm ts bs base ns → ∀ (id site : Nat), ∀ x ∈ (recsL ts id site).zip ns, Bri x.1 x.2
 | _, _, [], _, _, _, h, id, site, x, hx => by simp [recsL] at hx
 | _, _, _ :: _, [], _, _, h, _, _, _, _ => by simp [NAs] at h
 | _, _, t :: r, b :: bs, _, _, h, id, site, x, hx => by
  simp only [NAs] at h
  obtain ⟨a, c, h1, h2, rfl⟩ := h
  have hl := h1.len
  simp only [recsL] at hx
  rw [List.zip_append (by rw [recs_len, hl])] at hx
  rcases List.mem_append.1 hx with hx | hx
  ·exact NA.bri h1 _ _ x hx
  ·exact NAs.bri h2 _ _ x hx
end
mutual
theorem opn_ids : ∀ (t : PT) (base id site k : Nat), k < t.cnt → ∃ (j : Nat) (r : Rec), (opn t base)[k]? = some ((base + j : Nat) : Int) ∧ (t.recs id site)[j]? = some r ∧ r.id = id + k
 | .num p s, base, id, site, k, h => by
  simp only [PT.cnt] at h
  have : k = 0 := by omega
  subst this
  exact ⟨0, _, rfl, rfl, rfl⟩
 | .name p s, base, id, site, k, h => by
  simp only [PT.cnt] at h
  have : k = 0 := by omega
  subst this
  exact ⟨0, _, rfl, rfl, rfl⟩
 | .node p kw nm rg kids, base, id, site, k, h => by
  simp only [PT.cnt] at h
  cases k with
  | zero =>
   refine ⟨cntL kids, ⟨kw.bytes, p, nm, valueL rg, id, id + cntL kids, site⟩, rfl, ?_, rfl⟩
   simp only [PT.recs]
   rw [List.getElem?_append_right (by rw [recsL_len]; exact Nat.le_refl _), recsL_len, Nat.sub_self]; rfl
  | succ k =>
   obtain ⟨j, r, h1, h2, h3⟩ := opnL_ids kids base (id + 1) (site + if kw = .pair then 1 else 0) k (by omega)
   refine ⟨j, r, ?_, ?_, by omega⟩
   ·simp only [opn, List.getElem?_cons_succ]; exact h1
   ·simp only [PT.recs]
    rw [List.getElem?_append_left (List.getElem?_eq_some_iff.1 h2).1]; exact h2
theorem opnL_ids : ∀ (ts : List PT) (base id site k : Nat), k < cntL ts → ∃ (j : Nat) (r : Rec), (opnL ts base)[k]? = some ((base + j : Nat) : Int) ∧ (recsL ts id site)[j]? = some r ∧ r.id = id + k
 | [], _, _, _, k, h => by simp [cntL] at h
 | t :: r, base, id, site, k, h => by
  simp only [cntL] at h
  simp only [opnL, recsL]
  by_cases hk : k < t.cnt
  ·obtain ⟨j, x, h1, h2, h3⟩ := opn_ids t base id site k hk
   refine ⟨j, x, ?_, ?_, h3⟩
   ·rw [List.getElem?_append_left (by rw [opn_len]; exact hk)]; exact h1
   ·rw [List.getElem?_append_left (List.getElem?_eq_some_iff.1 h2).1]; exact h2
  ·obtain ⟨j, x, h1, h2, h3⟩ := opnL_ids r (base + t.cnt) (id + t.cnt) (site + t.prs) (k - t.cnt) (by omega)
   refine ⟨t.cnt + j, x, ?_, ?_, by omega⟩
   ·rw [List.getElem?_append_right (by rw [opn_len]; omega), opn_len, h1]
    congr 2; omega
   ·rw [List.getElem?_append_right (by rw [recs_len]; omega), recs_len]
    rw [show t.cnt + j - t.cnt = j by omega]; exact h2
end
structure Al (rl : List Rec) (ns lst : List NR) : Prop where
 f2 : ∀ z ∈ rl.zip ns, lst[z.1.id]? = some z.2
 f3 : ∀ r ∈ rl, ∃ n, (r, n) ∈ rl.zip ns
 f1 : ∀ (k : Nat) (n : NR), lst[k]? = some n → ∃ r, (r, n) ∈ rl.zip ns ∧ r.id = k
 br : ∀ z ∈ rl.zip ns, Bri z.1 z.2
 b : ∀ x ∈ rl.zip ns, ∀ y ∈ rl.zip ns, (x.1.id < y.1.id ↔ x.2.at_ < y.2.at_) ∧ (y.1.id ≤ x.1.last ↔ y.2.at_ < x.2.beh)
mutual
theorem subs_nodup : ∀ (t : PT) (id site : Nat), ((t.subs id site).map (·.2.1)).Nodup
 | .num _ _, id, site => by simp [PT.subs]
 | .name _ _, id, site => by simp [PT.subs]
 | .node p k nm rg kids, id, site => by
  simp only [PT.subs, List.map_append, List.map_cons, List.map_nil]
  rw [List.nodup_append]
  refine ⟨subsL_nodup kids _ _, by simp, ?_⟩
  intro a ha b hb
  obtain ⟨x, hx, rfl⟩ := List.mem_map.1 ha
  have := subsL_ids kids _ _ x hx
  rw [List.mem_singleton] at hb
  omega
theorem subsL_nodup : ∀ (ts : List PT) (id site : Nat), ((subsL ts id site).map (·.2.1)).Nodup
 | [], _, _ => by simp [subsL]
 | t :: r, id, site => by
  simp only [subsL, List.map_append]
  rw [List.nodup_append]
  refine ⟨subs_nodup t _ _, subsL_nodup r _ _, ?_⟩
  intro a ha b hb
  obtain ⟨x, hx, rfl⟩ := List.mem_map.1 ha
  obtain ⟨y, hy, rfl⟩ := List.mem_map.1 hb
  have h1 := subs_ids t _ _ x hx
  have h2 := subsL_ids r _ _ y hy
  have := cnt_pos x.1
  omega
end
theorem recOf_id (x : PT × Nat × Nat) : (recOf x).id = x.2.1 := by obtain ⟨t, a, b⟩ := x; cases t <;> rfl
theorem recs_inj (t : PT) (id site : Nat) {i j : Nat} {r r' : Rec} (hi : (t.recs id site)[i]? = some r) (hj : (t.recs id site)[j]? = some r') (h : r.id = r'.id) : i = j := by
 have hn : ((t.recs id site).map (·.id)).Nodup := by
  rw [recs_subs, List.map_map]
  have : ((fun (r : Rec) => r.id) ∘ recOf) = (fun (x : PT × Nat × Nat) => x.2.1) := by funext x; exact recOf_id x
  rw [this]; exact subs_nodup t id site
 have li := (List.getElem?_eq_some_iff.1 hi).1
 have lj := (List.getElem?_eq_some_iff.1 hj).1
 have ei : ((t.recs id site).map (·.id))[i]'(by simpa using li) = r.id := by
  rw [List.getElem_map]; rw [List.getElem?_eq_getElem li] at hi; rw [Option.some.inj hi]
 have ej : ((t.recs id site).map (·.id))[j]'(by simpa using lj) = r'.id := by
  rw [List.getElem_map]; rw [List.getElem?_eq_getElem lj] at hj; rw [Option.some.inj hj]
 have hp := List.pairwise_iff_getElem.1 hn
 rcases Nat.lt_trichotomy i j with hij | hij | hij
 ·exact absurd (by rw [ei, ej, h]) (hp i j (by simpa using li) (by simpa using lj) hij)
 ·exact hij
 ·exact absurd (by rw [ei, ej, h]) (hp j i (by simpa using lj) (by simpa using li) hij)
theorem opNs_get {ns : List NR} {op : List Int} {k j : Nat} {n : NR} (h1 : op[k]? = some (j : Int)) (h2 : ns[j]? = some n) : (opNs ns op)[k]? = some n := by
 unfold opNs
 rw [List.getElem?_map, h1]
 simp [h2]
theorem zip_mem {rl : List Rec} {ns : List NR} {j : Nat} {r : Rec} {n : NR} (h1 : rl[j]? = some r) (h2 : ns[j]? = some n) : (r, n) ∈ rl.zip ns :=
 List.mem_of_getElem? (i := j) (by rw [List.getElem?_zip_eq_some]; exact ⟨h1, h2⟩)
theorem mem_zip_at {rl : List Rec} {ns : List NR} {z : Rec × NR} (h : z ∈ rl.zip ns) : ∃ j : Nat, rl[j]? = some z.1 ∧ ns[j]? = some z.2 := by
 obtain ⟨j, hj⟩ := List.getElem?_of_mem h
 exact ⟨j, List.getElem?_zip_eq_some.1 hj⟩
theorem al_of {e : PT} {ns : List NR} {lo hi : Nat} (hna : NA [] e 0 ns) (hpos : PosN e ns lo hi) : Al (e.recs 0 0) ns (opNs ns (opn e 0)) := by
 have hl := hna.len
 have hrl := recs_len e 0 0
 have hg := (hpos.good 0 0).2
 refine ⟨?_, ?_, ?_, hna.bri 0 0, hg.b⟩
 ·intro z hz
  obtain ⟨j, h1, h2⟩ := mem_zip_at hz
  have hb := hg.a z hz
  obtain ⟨j', r, g1, g2, g3⟩ := opn_ids e 0 0 0 z.1.id (by omega)
  have : j' = j := recs_inj e 0 0 g2 h1 (by omega)
  subst this
  rw [Nat.zero_add] at g1
  exact opNs_get g1 h2
 ·intro r hr
  obtain ⟨j, hj⟩ := List.getElem?_of_mem hr
  have hlt := (List.getElem?_eq_some_iff.1 hj).1
  exact ⟨_, zip_mem hj (List.getElem?_eq_getElem (by omega))⟩
 ·intro k n hk
  have hlt := (List.getElem?_eq_some_iff.1 hk).1
  rw [opNs_len, (op_ok hna).1] at hlt
  obtain ⟨j, r, g1, g2, g3⟩ := opn_ids e 0 0 0 k (by omega)
  rw [Nat.zero_add] at g1 g3
  have hjl := (List.getElem?_eq_some_iff.1 g2).1
  have hn : ns[j]? = some ns[j] := List.getElem?_eq_getElem (by omega)
  have := opNs_get g1 hn
  rw [hk] at this
  refine ⟨r, ?_, g3⟩
  rw [Option.some.inj this]
  exact zip_mem g2 hn
theorem fk_let : formK .let_ = 3 := by decide
theorem fk_pair : formK .pair = 4 := by decide
theorem fk_fst : formK .fst = 5 := by decide
theorem fk_snd : formK .snd = 6 := by decide
theorem fk_if : formK .if_ = 7 := by decide
theorem fk_loop : formK .loop = 11 := by decide
structure MV where
 c : Bool
 n : Int
structure MC where
 a : MV
 b : MV
 home : Nat
 ser : Nat
def v0 : MV := ⟨false, 0⟩
def c0 : MC := ⟨v0, v0, 0, 0⟩
mutual
def PT.rgd : PT → Prop
 | .num _ s => 0 ≤ valueL s ∧ valueL s ≤ 9999
 | .name _ _ => True
 | .node _ _ _ rg kids => (0 ≤ valueL rg ∧ valueL rg ≤ 9999) ∧ rgdL kids
def rgdL : List PT → Prop
 | [] => True
 | t :: r => t.rgd ∧ rgdL r
end
inductive NoNew : PT → Prop
 | num {p : Nat} {s : List UInt8} : NoNew (.num p s)
 | name {p : Nat} {s : List UInt8} : NoNew (.name p s)
 | node {p : Nat} {k : Kw} {nm rg : List UInt8} {kids : List PT} (hk : k ≠ .new) (h : ∀ x ∈ kids, NoNew x) : NoNew (.node p k nm rg kids)
open Go.Lib (decDigits)
theorem fin_end {id p : Nat} {x : Ty × TSt} {T : Ty} {A : Nat} (h0 : x.2.e = 0) (hb : x.1.bare = T) (hs : T.size ≤ 63) (ha : x.2.at_ = A) : (fin id p x).2.e = 0 ∧ (fin id p x).1.bare = T ∧ T.size ≤ 63 ∧ (fin id p x).2.at_ = A := by
 have hsz : x.1.size ≤ 63 := by rw [← bare_sizeE, hb]; exact hs
 unfold fin
 have : ¬ (x.2.e = 0 ∧ 63 < x.1.size) := by omega
 simp only [if_neg this]
 exact ⟨h0, hb, hs, ha⟩
theorem bare_pair {T A B : Ty} {r : Nat} (h : T.bare = .p r A B) : ∃ q u v, T = .p q u v ∧ u.bare = A ∧ v.bare = B := by
 cases T with
 | n => simp [Ty.bare] at h
 | p q u v => simp only [Ty.bare, Ty.p.injEq] at h; exact ⟨q, u, v, rfl, h.2.1, h.2.2⟩
theorem bare_num {T : Ty} (h : T.bare = .n) : T = .n := by cases T with
 | n => rfl
 | p q u v => simp [Ty.bare] at h
theorem WT.find {G : TEnv} {e : PT} {T : Ty} (h : WT G e T) : ∀ (cls : List Nat) (id site : Nat) (env : TEnv) (st : TSt), bareE env = G → (∀ x ∈ env, x.2.size ≤ 63) → st.e = 0 →
  (tyFind cls e id site env st).2.e = 0 ∧ (tyFind cls e id site env st).1.bare = T ∧ T.size ≤ 63 ∧ (tyFind cls e id site env st).2.at_ = st.at_ := by
 induction h with
 | num => intro cls id site env st _ _ h0; simp only [tyFind]; exact fin_end h0 rfl (by simp [Ty.size]) rfl
 | name h =>
  intro cls id site env st hG hs h0
  simp only [tyFind]
  rw [← hG, look_bare] at h
  cases hl : look env _ with
  | none => rw [hl] at h; simp at h
  | some U =>
   rw [hl] at h
   simp only [Option.map_some, Option.some.injEq] at h
   have hU : U.size ≤ 63 := by
    unfold look at hl
    cases hf : env.reverse.find? (fun x => x.1 == _) with
    | none => rw [hf] at hl; simp at hl
    | some z =>
     rw [hf] at hl
     simp only [Option.map_some, Option.some.injEq] at hl
     have := List.mem_of_find?_eq_some hf
     rw [← hl]
     exact hs z (List.mem_reverse.1 this)
   exact fin_end h0 h (by rw [← h, bare_sizeE]; exact hU) rfl
 | let_ ha hb iha ihb =>
  intro cls id site env st hG hs h0
  simp only [tyFind, if_true, tyLet]
  obtain ⟨a1, a2, a3, a4⟩ := iha cls (id + 1) site env st hG hs h0
  rename_i nm _ a b A B
  obtain ⟨b1, b2, b3, b4⟩ := ihb cls (id + 1 + a.cnt) (site + a.prs) (env ++ [(nm, (tyFind cls a (id + 1) site env st).1)]) (tyFind cls a (id + 1) site env st).2 (by rw [bareE_snoc, hG, a2]) (by
   intro x hx
   rcases List.mem_append.1 hx with hx | hx
   ·exact hs x hx
   ·simp only [List.mem_singleton] at hx; subst hx; rw [← bare_sizeE, a2]; exact a3) a1
  exact fin_end b1 b2 b3 (b4.trans a4)
 | pair ha hb hsz iha ihb =>
  intro cls id site env st hG hs h0
  simp only [tyFind, if_true, tyKids, if_neg (show Kw.pair ≠ .let_ by decide), if_neg (show Kw.pair ≠ .loop by decide)]
  rename_i a b A B
  obtain ⟨a1, a2, a3, a4⟩ := iha cls (id + 1) (site + 1) env st hG hs h0
  obtain ⟨b1, b2, b3, b4⟩ := ihb cls (id + 1 + a.cnt) (site + 1 + a.prs) env _ hG hs a1
  rw [if_neg (by rw [b1]; simp)]
  simp only [madeT]
  exact fin_end b1 (by simp only [Ty.bare, a2, b2]) hsz (b4.trans a4)
 | fst ha iha =>
  intro cls id site env st hG hs h0
  simp only [tyFind, tyKids, if_neg (show Kw.fst ≠ .let_ by decide), if_neg (show Kw.fst ≠ .loop by decide), if_neg (show Kw.fst ≠ .pair by decide), Nat.add_zero]
  obtain ⟨a1, a2, a3, a4⟩ := iha cls (id + 1) site env st hG hs h0
  rw [if_neg (by rw [a1]; simp)]
  obtain ⟨q, u, v, e, hu, hv⟩ := bare_pair a2
  rw [e]
  simp only [madeT]
  simp only [Ty.size] at a3
  exact fin_end a1 hu (by omega) a4
 | snd ha iha =>
  intro cls id site env st hG hs h0
  simp only [tyFind, tyKids, if_neg (show Kw.snd ≠ .let_ by decide), if_neg (show Kw.snd ≠ .loop by decide), if_neg (show Kw.snd ≠ .pair by decide), Nat.add_zero]
  obtain ⟨a1, a2, a3, a4⟩ := iha cls (id + 1) site env st hG hs h0
  rw [if_neg (by rw [a1]; simp)]
  obtain ⟨q, u, v, e, hu, hv⟩ := bare_pair a2
  rw [e]
  simp only [madeT]
  simp only [Ty.size] at a3
  exact fin_end a1 hv (by omega) a4
 | if_ ha hb hc iha ihb ihc =>
  intro cls id site env st hG hs h0
  simp only [tyFind, tyKids, if_neg (show Kw.if_ ≠ .let_ by decide), if_neg (show Kw.if_ ≠ .loop by decide), if_neg (show Kw.if_ ≠ .pair by decide), Nat.add_zero]
  rename_i a b c T
  obtain ⟨a1, a2, a3, a4⟩ := iha cls (id + 1) site env st hG hs h0
  obtain ⟨b1, b2, b3, b4⟩ := ihb cls (id + 1 + a.cnt) (site + a.prs) env _ hG hs a1
  obtain ⟨c1, c2, c3, c4⟩ := ihc cls (id + 1 + a.cnt + b.cnt) (site + a.prs + b.prs) env _ hG hs b1
  rw [if_neg (by rw [c1]; simp)]
  simp only [madeT]
  rw [if_pos ⟨bare_num a2, by rw [b2, c2]⟩]
  exact fin_end c1 b2 b3 (c4.trans (b4.trans a4))
 | two hk ha hb iha ihb =>
  intro cls id site env st hG hs h0
  rename_i k _ _ a b
  have hk' : k ≠ .let_ ∧ k ≠ .loop ∧ k ≠ .pair := by rcases hk with rfl | rfl | rfl <;> decide
  simp only [tyFind, tyKids, if_neg hk'.1, if_neg hk'.2.1, if_neg hk'.2.2, Nat.add_zero]
  obtain ⟨a1, a2, a3, a4⟩ := iha cls (id + 1) site env st hG hs h0
  obtain ⟨b1, b2, b3, b4⟩ := ihb cls (id + 1 + a.cnt) (site + a.prs) env _ hG hs a1
  rw [if_neg (by rw [b1]; simp)]
  have hm : ∀ (ps : Nat) (A B : Ty) (s : TSt), A = .n → B = .n → madeT cls k ps site [A, B] s = (.n, s) := by
   rintro ps _ _ s rfl rfl
   rcases hk with rfl | rfl | rfl <;> simp [madeT]
  rw [hm _ _ _ _ (bare_num a2) (bare_num b2)]
  exact fin_end b1 rfl (by simp [Ty.size]) (b4.trans a4)
 | loop ha hb hc iha ihb ihc =>
  intro cls id site env st hG hs h0
  simp only [tyFind, tyLoop, if_true, if_neg (show Kw.loop ≠ .let_ by decide)]
  rename_i nm _ a b c T
  obtain ⟨a1, a2, a3, a4⟩ := iha cls (id + 1) site env st hG hs h0
  obtain ⟨b1, b2, b3, b4⟩ := ihb cls (id + 1 + a.cnt) (site + a.prs) env _ hG hs a1
  obtain ⟨c1, c2, c3, c4⟩ := ihc cls (id + 1 + a.cnt + b.cnt) (site + a.prs + b.prs) (env ++ [(nm, (tyFind cls b (id + 1 + a.cnt) (site + a.prs) env (tyFind cls a (id + 1) site env st).2).1)]) _ (by rw [bareE_snoc, hG, b2]) (by
   intro x hx
   rcases List.mem_append.1 hx with hx | hx
   ·exact hs x hx
   ·simp only [List.mem_singleton] at hx; subst hx; rw [← bare_sizeE, b2]; exact b3) b1
  rw [if_neg (by rw [c1]; simp)]
  simp only [madeT]
  rw [if_pos ⟨bare_num a2, by rw [b2, c2]⟩]
  exact fin_end c1 b2 b3 (c4.trans (b4.trans a4))
 | new ha iha =>
  intro cls id site env st hG hs h0
  simp only [tyFind, tyKids, if_neg (show Kw.new ≠ .let_ by decide), if_neg (show Kw.new ≠ .loop by decide), if_neg (show Kw.new ≠ .pair by decide), Nat.add_zero]
  obtain ⟨a1, a2, a3, a4⟩ := iha cls (id + 1) site env st hG hs h0
  rw [if_neg (by rw [a1]; simp)]
  simp only [madeT]
  exact fin_end a1 a2 a3 a4
theorem chk_ok {e : PT} {T : Ty} (h : WT [] e T) (hp : e.prs ≤ 100) : chkAns e = (0, 0) := by
 unfold chkAns
 have hf := h.find (List.range e.prs) 0 0 [] (st0 e) rfl (by simp) rfl
 rw [if_neg (by omega), hf.1, hf.2.2.2]
 rfl
open Go.RowKit
theorem own_neH {w : World} {base : Nat} {e : TypeId} {size : Nat} {v : Value} {n : Nat} {xs : List Value} (h : w.ownsRow base e size v n xs) {b : Nat} {arr : Array Value} {t : TypeId} {fr : Nat × Nat} (hb : w.heap[b]? = some (.cells arr t fr)) (ht : t ≠ e) : ∀ k, v.ownBlock = some k → k ≠ b := by
 intro k hk hkb
 rcases h.2 with ⟨h1, _⟩ | ⟨g, cap, cur, h1, _, hh, _⟩
 ·rw [h1] at hk; simp [Value.ownBlock] at hk
 ·rw [h1] at hk
  simp [Value.ownBlock] at hk
  rw [hk, hkb, hb] at hh
  simp only [Option.some.injEq, Obj.cells.injEq] at hh
  exact ht hh.2.1
set_option maxRecDepth 100000 in
set_option maxHeartbeats 4000000 in
theorem readPlain_pg (s : ByteArray) (w : World) (hs : s.size ≤ 3000) (e : PT) (hp : PE false (tokens s.data.toList) e []) : Calls Tryz.prog 31 #[.string s] w fun v w' => ∃ x1 n1 c1 x2 n2 c2 ns, v = .returned (.tuple #[treeV (.slice x1 n1 c1) (.slice x2 n2 c2), .int .i64 (chkAns e).1, .int .i64 (chkAns e).2]) ∧ Below w.heap.size w w' ∧ TreeIn w' (.slice x1 n1 c1) (.slice x2 n2 c2) ns (opn e 0) ∧ NA [] e 0 ns ∧ (pProg false s.size (tokens s.data.toList)).nodes = ns := by
 obtain ⟨ns, hna, hpg⟩ := prog_yes (len := s.size) hp
 have hcnt := Study_len hp
 have hnl := hna.len
 have hpp := fun w => ParsePlain_any s w (by omega)
 have hpr := fun (w : World) (nv ov : Value) (h : TreeIn w nv ov ns (opn e 0)) => Program_any w nv ov ns (opn e 0) h (op_ok hna) (by omega) (hna.small (fun _ h => by simp at h) (by omega)) (fun j n hj => by have := hna.back j n hj; simpa using this)
 rw [prog_ans hna] at hpr
 have HPG : Hid _ := hpg
 have HPR : Hid _ := hpr
 have hnd : (pProg false s.size (tokens s.data.toList)).nodes = ns := by rw [hpg]
 have HNA : Hid _ := And.intro hna hnd
 clear hp hna hpg hpr hnl hnd
 generalize chkAns e = ans at *
 go_enter Tryz.func31, Tryz.ntmps31
 go_wp2_with fail
 refine (hpp _).mono ?_
 rintro v w1 ⟨hb, hv⟩
 have hr := kept1 hb
 have hlt := blk_lt hr
 have HB : Hid _ := below1 hb
 have HR : Hid _ := hr
 rcases hv with ⟨q', hq', _⟩ | ⟨_, nv, ov, rfl, hT⟩
 ·rw [HPG.out] at hq'; cases hq'
 ·rw [HPG.out] at hT
  simp only at hT
  obtain ⟨x1, c1, e1⟩ := slice_any hT.nd
  obtain ⟨x2, c2, e2⟩ := slice_any hT.op
  have HNN : Hid _ := own_neH hT.nd hr (by decide)
  have HNO : Hid _ := own_neH hT.op hr (by decide)
  have hT1 := hT.below ((Below.refl _ w1).alloc (Nat.le_refl _) (.cells #[nv, ov] 59))
  have hpr := HPR.out (w1.alloc (.cells #[nv, ov] 59)) nv ov (hT.below ((Below.refl _ w1).alloc (Nat.le_refl _) _))
  subst e1
  subst e2
  unfold treeV at hpr
  unfold treeV
  clear hT hb hr hpp
  go_wp2_with fail
  refine hpr.mono ?_
  rintro _ w2 ⟨rfl, hb2⟩
  have HT2 : Hid _ := hT1.below hb2
  have hk := kept1 hb2
  have k0 : w2.cell? ⟨w1.heap.size, 0, none⟩ = some (.slice x1 ns.length c1) := by rw [blk_cell hk]; rfl
  have k1 : w2.cell? ⟨w1.heap.size, 1, none⟩ = some (.slice x2 (opn e 0).length c2) := by rw [blk_cell hk]; rfl
  have hr2 : w2.heap[w.heap.size]? = some (.cells #[.slice none 0 0, .slice none 0 0] 59 (0, 0)) := by
   rw [hb2.block _ (by simp; omega)]; exact blk_alloc _ HR.out
  have r0 : w2.cell? ⟨w.heap.size, 0, none⟩ = some (.slice none 0 0) := by rw [blk_cell hr2]; rfl
  have r1 : w2.cell? ⟨w.heap.size, 1, none⟩ = some (.slice none 0 0) := by rw [blk_cell hr2]; rfl
  have f0 := blk_free hr2 0
  have f1 := blk_free hr2 1
  have hB2 : Below w.heap.size w w2 := HB.out.trans ((below1 hb2).mono HB.out.size)
  have HB2 : Hid _ := hB2
  have hne : w.heap.size ≠ w1.heap.size := by omega
  clear hk hr2 hb2 hB2 hpr
  go_wp2
  refine bodyPost_ret (v := .tuple #[.agg #[.slice x1 ns.length c1, .slice x2 (opn e 0).length c2], .int .i64 ans.1, .int .i64 ans.2]) (by simp [results, Tryz.results31, go_sem, r0, r1]) rfl ⟨x1, ns.length, c1, x2, (opn e 0).length, c2, ns, rfl, ?_, ⟨owns_blk HT2.out.nd (fun k hk => by rw [blk_other _ _ (by simpa using HNN.out k hk), blk_other _ _ (by simpa using HNN.out k hk)]), owns_blk HT2.out.op (fun k hk => by rw [blk_other _ _ (by simpa using HNO.out k hk), blk_other _ _ (by simpa using HNO.out k hk)])⟩, HNA.out⟩
  exact (HB2.out.setCell (p := ⟨w.heap.size, 0, none⟩) (Nat.le_refl _) _).setCell (p := ⟨w.heap.size, 1, none⟩) (Nat.le_refl _) _
theorem wants_noreg (k : Kw) : Wt.region ∉ wantsK k false := by cases k <;> decide
mutual
theorem PE.plain : ∀ {l : List Tk} {e : PT} {r : List Tk}, PE false l e r → (∀ t ∈ l, TkTame t) → (e.rgd ∧ NoNew e) ∧ ∀ t ∈ r, TkTame t
 | _, _, _, .num (t := t) h, ha => ⟨⟨by simp only [PT.rgd]; exact (ha t (by simp)).1 h, .num⟩, fun x hx => ha x (by simp [hx])⟩
 | _, _, _, .name (t := t) h, ha => ⟨⟨by simp [PT.rgd], .name⟩, fun x hx => ha x (by simp [hx])⟩
 | _, _, _, .node (k := k) _ _ h3 h4, ha => by
  have h := PW.plain h4 (wants_noreg k) (fun x hx => ha x (by simp [hx]))
  refine ⟨⟨by simp only [PT.rgd]; exact ⟨by rw [h.1]; decide, h.2.1⟩, .node (fun e => by subst e; exact h3 rfl) h.2.2.1⟩, h.2.2.2⟩
theorem PW.plain : ∀ {ws : List Wt} {l : List Tk} {nm rg : List UInt8} {kids : List PT} {r : List Tk}, PW false ws l nm rg kids r → Wt.region ∉ ws → (∀ t ∈ l, TkTame t) → rg = [] ∧ rgdL kids ∧ (∀ x ∈ kids, NoNew x) ∧ ∀ t ∈ r, TkTame t
 | _, _, _, _, _, _, .nil, _, ha => ⟨rfl, by simp [rgdL], by simp, ha⟩
 | _, _, _, _, _, _, .close _ h1, hn, ha => PW.plain h1 (fun h => hn (by simp [h])) (fun x hx => ha x (by simp [hx]))
 | _, _, _, _, _, _, .name _ h1, hn, ha => PW.plain h1 (fun h => hn (by simp [h])) (fun x hx => ha x (by simp [hx]))
 | _, _, _, _, _, _, .region _ h1, hn, ha => absurd (by simp) hn
 | _, _, _, _, _, _, .e h0 h1, hn, ha => by
  have a := PE.plain h0 ha
  have b := PW.plain h1 (fun h => hn (by simp [h])) a.2
  refine ⟨b.1, by simp only [rgdL]; exact ⟨a.1.1, b.2.1⟩, ?_, b.2.2.2⟩
  intro x hx
  rcases List.mem_cons.1 hx with rfl | hx
  ·exact a.1.2
  ·exact b.2.2.1 x hx
end
theorem chk_WT {e : PT} (hw : e.wf) (h : (chkAns e).1 = 0) : ∃ T, WT [] e T ∧ T.size ≤ 63 := by
 unfold chkAns at h
 split at h
 ·simp at h
 ·have := tyFind_WT (List.range e.prs) e 0 0 [] (st0 e) hw h
  exact ⟨_, this.2.2, by rw [bare_sizeE]; exact this.2.1⟩
theorem findS_snocO (sc : Sc) (nm : List UInt8) (i : Int) (s : List UInt8) : findS (sc ++ [(nm, i)]) s = if nm = s then i else findS sc s := by
 unfold findS
 rw [List.reverse_append, List.reverse_singleton, List.singleton_append, List.find?_cons]
 by_cases h : nm = s
 ·subst h; simp
 ·have : (nm == s) = false := by rw [beq_eq_false_iff_ne]; exact h
  simp only [this, if_neg h]
def LyT (regs : List Int) (ns : List NR) : Prop := ∀ (i : Nat) (n : NR), ns[i]? = some n → (n.form = 4 → 0 ≤ rgV regs i ∧ rgV regs i ≤ 999) ∧ (n.form ≠ 4 → rgV regs i = -1)
theorem form4 (k : Kw) : formK k = 4 ↔ k = .pair := by cases k <;> decide
structure FdIn (fb : Nat) (w : World) (nv ov pv tv : Value) (tb : List TP) (K : List Nat) (ns : List NR) (op : List Int) : Prop where
 c : CInO fb 2 #[nv, ov, pv, tv] 191 w pv tv tb K
 t : TreeIn w nv ov ns op
theorem FdIn.below {fb : Nat} {w w' : World} {nv ov pv tv : Value} {tb : List TP} {K : List Nat} {ns : List NR} {op : List Int} (h : FdIn fb w nv ov pv tv tb K ns op) (hb : Below w.heap.size w w') : FdIn fb w' nv ov pv tv tb K ns op := ⟨h.c.below hb, h.t.below hb⟩
set_option maxRecDepth 100000 in
set_option maxHeartbeats 4000000 in
theorem fmentions_any (fb : Nat) (w : World) (nv ov pv tv : Value) (tb : List TP) (K : List Nat) (ns : List NR) (op : List Int) (D : List Ty) (T : List Ty) (h : FdIn fb w nv ov pv tv tb K ns op) (hR : Rel tb D K T) (hl : tb.length ≤ 9000) (hK : K.length ≤ 9000) (i rg : Nat) (hi : i ≤ 9000) :
  Calls Tryz.prog 137 #[ptr fb, .int .i64 i, .int .i64 rg] w fun v w' => v = .returned (.bool ((knownT T i).has rg)) ∧ Below w.heap.size w w' := by
 obtain ⟨k1, k2, k3⟩ := hR.known i
 have hof := knownO_any w fb 2 tv K i h.c.c1 h.c.t hK (by omega)
 have hme := MentionsO_any fb 2 pv tb hl hR.low rg (tb.length + 1) (knownK K i) (by omega) (by omega) w h.c.c0 h.c.p
 rw [ment_eq hR rg _ _ (by omega) k2, ← k1] at hme
 have HOF : Hid _ := hof
 have HME : Hid _ := hme
 have hfl := blk_lt h.c.y
 generalize knownK K i = kk at *
 generalize (knownT T i).has rg = mm at *
 clear hof hme h hR k1 k2 k3
 show Calls _ _ #[Value.pointer (some ⟨fb, 0, none⟩), _, _] w _
 go_enter Tryz.func137, Tryz.ntmps137
 go_wp2_with fail
 refine Calls.mono HOF.out ?_
 rintro _ _ ⟨rfl, rfl⟩
 go_wp2_with fail
 refine Calls.mono HME.out ?_
 rintro _ w2 ⟨rfl, hb2⟩
 have HB2 : Hid _ := hb2
 clear hb2
 go_wp2
 go_ret
 exact ⟨rfl, HB2.out⟩
def spanF (T : List Ty) (rg : Nat) : List NR → Nat → Nat → Nat → Nat × Nat
 | [], _, a, b => (a, b)
 | n :: r, i, a, b => if (knownT T i).has rg = true then spanF T rg r (i + 1) (if n.at_ < a then n.at_ else a) (if b < n.beh then n.beh else b) else spanF T rg r (i + 1) a b
def aboutF (T : List Ty) (rg a b : Nat) : List NR → Nat → Int
 | [], _ => -1
 | n :: r, i => if n.at_ ≤ a ∧ b ≤ n.beh ∧ (knownT T i).has rg = false then (i : Int) else aboutF T rg a b r (i + 1)
set_option maxRecDepth 100000 in
set_option maxHeartbeats 8000000 in
theorem span_any (fb : Nat) (w : World) (x1 : Option Addr) (n1 c1 : Nat) (x2 : Option Addr) (n2 c2 : Nat) (pv tv : Value) (tb : List TP) (K : List Nat) (ns : List NR) (op : List Int) (D : List Ty) (T : List Ty) (h : FdIn fb w (.slice x1 n1 c1) (.slice x2 n2 c2) pv tv tb K ns op) (hR : Rel tb D K T) (hl : tb.length ≤ 9000) (hK : K.length ≤ 9000) (hn : ns.length ≤ 9000) (rg : Nat) (n0 : NR) (h0 : ns[ns.length - 1]? = some n0) :
  Calls Tryz.prog 136 #[ptr fb, .int .i64 rg] w fun v w' => v = .returned (.tuple #[.int .i64 (spanF T rg ns 0 n0.beh n0.at_).1, .int .i64 (spanF T rg ns 0 n0.beh n0.at_).2]) ∧ Below w.heap.size w w' := by
 obtain ⟨m, hm⟩ : ∃ m, m = ns.length := ⟨_, rfl⟩
 have hm1 : 1 ≤ m := by have := (List.getElem?_eq_some_iff.1 h0).1; omega
 have hfl := blk_lt h.c.y
 have hCC : ∀ W', Below w.heap.size w W' → W'.cell? ⟨fb, 0, none⟩ = some (.slice x1 n1 c1) ∧ W'.cell? ⟨fb, 1, none⟩ = some (.slice x2 n2 c2) ∧ fb < W'.heap.size := fun W' hb => by
  have := (h.below hb).c.y
  exact ⟨by rw [blk_cell this]; rfl, by rw [blk_cell this]; rfl, blk_lt this⟩
 have hRO : ∀ W', Below w.heap.size w W' → Calls Tryz.prog 68 #[.agg #[.slice x1 n1 c1, .slice x2 n2 c2]] W' fun v w' => v = .returned (.int .i64 ((m - 1 : Nat) : Int)) ∧ Below w.heap.size w w' ∧ Below W'.heap.size W' w' := fun W' hb => by
  refine (Root_any W' _ _ ns op (h.below hb).t hn).mono ?_
  rintro _ w' ⟨rfl, hb'⟩
  exact ⟨by congr 2; omega, hb.trans (hb'.mono hb.size), hb'⟩
 have hNO : ∀ W', Below w.heap.size w W' → ∀ (k : Nat) (n : NR), ns[k]? = some n → Calls Tryz.prog 94 #[.agg #[.slice x1 n1 c1, .slice x2 n2 c2], .int .i64 k] W' fun v w' => v = .returned (nrVal n) ∧ Below w.heap.size w w' ∧ Below W'.heap.size W' w' := fun W' hb k n hk => by
  refine (Node_in' W' _ _ ns op (h.below hb).t k n hk hn).mono ?_
  rintro _ w' ⟨rfl, hb'⟩
  exact ⟨rfl, hb.trans (hb'.mono hb.size), hb'⟩
 have hN0 := fun W' hb => hNO W' hb (m - 1) n0 (by rw [hm]; exact h0)
 have hLE : ∀ W', Below w.heap.size w W' → Calls Tryz.prog 93 #[.agg #[.slice x1 n1 c1, .slice x2 n2 c2]] W' fun v w' => v = .returned (.int .i64 m) ∧ Below w.heap.size w w' := fun W' hb => by
  have := Len_any W' _ _ ns op (h.below hb).t
  rw [← hm] at this
  refine this.mono ?_
  rintro _ w' ⟨rfl, hb'⟩
  exact ⟨rfl, hb.trans (hb'.mono hb.size)⟩
 have hME : ∀ W', Below w.heap.size w W' → ∀ i : Nat, i < m → Calls Tryz.prog 137 #[.pointer (some ⟨fb, 0, none⟩), .int .i64 i, .int .i64 rg] W' fun v w' => v = .returned (.bool ((knownT T i).has rg)) ∧ Below w.heap.size w w' := fun W' hb i hi => by
  refine (fmentions_any fb W' _ _ pv tv tb K ns op D T (h.below hb) hR hl hK i rg (by omega)).mono ?_
  rintro _ w' ⟨rfl, hb'⟩
  exact ⟨rfl, hb.trans (hb'.mono hb.size)⟩
 obtain ⟨R, hRR⟩ : ∃ R, R = spanF T rg ns 0 n0.beh n0.at_ := ⟨_, rfl⟩
 rw [← hRR]
 unfold nrVal at hN0 hNO
 have HCC : Hid _ := hCC
 have HRO : Hid _ := hRO
 have HNO : Hid _ := hNO
 have HN0 : Hid _ := hN0
 have HLE : Hid _ := hLE
 have HME : Hid _ := hME
 have HM : Hid _ := hm
 have HRR : Hid _ := hRR
 obtain ⟨b0, b1, bl⟩ := hCC w (Below.refl _ _)
 rw [← hm] at hn
 clear hCC hRO hNO hN0 hLE hME h hR hm hRR h0
 show Calls _ _ #[Value.pointer (some ⟨fb, 0, none⟩), _] w _
 go_enter Tryz.func136, Tryz.ntmps136
 go_upto_region 1 with fail
 go_cut [6] from 11 to 20 (fun t6 wx => ∃ q, t6 = .pointer (some ⟨q, 0, none⟩) ∧ wx.heap[q]? = some (nrO n0) ∧ w.heap.size ≤ q ∧ Below w.heap.size w wx)
 case first =>
  go_region_law (first
   | (refine stepY_call rfl 68 #[.agg #[.slice x1 n1 c1, .slice x2 n2 c2]] ?_ ?_
      ·go_simp
      refine Calls.mono (HRO.out _ ?_) ?_
      ·repeat (first | with_reducible exact Below.refl _ _ | with_reducible refine belY_al ?_ _ | with_reducible refine belY_d ?_ | with_reducible refine belY_dn ?_)
      rintro e w2 ⟨rfl, hb2, hb2'⟩
      obtain ⟨b0, b1, bl⟩ := HCC.out _ hb2
      have hb2s := hb2.size
      try (have hz : w2.heap[w.heap.size]? = some (.cells nz 160 (0, 0)) := (hb2'.block _ (by simp)).trans (blk_new _ _))
      refine ⟨_, rfl, ?_⟩)
   | (refine stepY_call rfl 94 #[.agg #[.slice x1 n1 c1, .slice x2 n2 c2], .int .i64 ((m - 1 : Nat) : Int)] ?_ ?_
      ·go_simp
      refine Calls.mono (HN0.out _ ?_) ?_
      ·repeat (first | with_reducible exact Below.refl _ _ | with_reducible exact hb2 | with_reducible refine belY_al ?_ _ | with_reducible refine belY_d ?_ | with_reducible refine belY_dn ?_)
      rintro e w3 ⟨rfl, hb3, hb3'⟩
      try (have hz3 : w3.heap[w2.heap.size]? = some (.cells nz 160 (0, 0)) := (hb3'.block _ (by simp)).trans (blk_new _ _))
      try (have hz4 : w3.heap[w.heap.size]? = some (.cells nz 160 (0, 0)) := (hb3'.block _ (blk_lt hz)).trans hz)
      try (obtain ⟨z0, z1, z2, z3, z4, z5, z6, z7, z8, z9⟩ := nz_cells hz3; obtain ⟨f0, f1, f2, f3, f4, f5, f6, f7, f8, f9⟩ := nz_free hz3; have hzl := blk_lt hz3)
      try (obtain ⟨z0, z1, z2, z3, z4, z5, z6, z7, z8, z9⟩ := nz_cells hz4; obtain ⟨f0, f1, f2, f3, f4, f5, f6, f7, f8, f9⟩ := nz_free hz4; have hzl := blk_lt hz4)
      refine ⟨_, rfl, ?_⟩))
  all_goals (go_wp2_with fail; go_meet)
  all_goals first
   | (have hE := nz_end (.int .i64 n0.form) (.int .i64 n0.at_) (.int .i64 n0.beh) (.int .i64 n0.num) (.string (bs n0.word)) (.int .i64 n0.region) (.int .i64 n0.source) (.int .i64 n0.p0) (.int .i64 n0.p1) (.int .i64 n0.p2) hb3 hb2s hz3; exact ⟨_, rfl, hE.1, hb2s, hE.2⟩)
   | (have hE := nz_end (.int .i64 n0.form) (.int .i64 n0.at_) (.int .i64 n0.beh) (.int .i64 n0.num) (.string (bs n0.word)) (.int .i64 n0.region) (.int .i64 n0.source) (.int .i64 n0.p0) (.int .i64 n0.p1) (.int .i64 n0.p2) hb3 (Nat.le_refl _) hz4; exact ⟨_, rfl, hE.1, Nat.le_refl _, hE.2⟩)
   | exact ⟨_, rfl, blk_new _ _, hb3.size, belY_al hb3 _⟩
   | skip
 case rest =>
  obtain ⟨q, rfl, hq, hsq, hbc⟩ := hcut
  obtain ⟨d0, d1, d2, _⟩ := nr_cells10 hq
  have hql := blk_lt hq
  have HBC : Hid _ := hbc
  clear hq hbc b0 b1 HRO HN0
  go_wp2
  go_loopw [7, 8, 9, 10] (fun fa be i _ wr => ∃ (k a b : Nat), k ≤ m ∧ i = .int .i64 k ∧ fa = .int .i64 a ∧ be = .int .i64 b ∧ Hid (spanF T rg ns 0 n0.beh n0.at_ = spanF T rg (ns.drop k) k a b) ∧ Below w.heap.size w wr) (fun _ _ i _ _ => m - (intOf i).toNat)
  case atStart => exact ⟨0, n0.beh, n0.at_, Nat.zero_le _, rfl, rfl, rfl, (rfl : spanF T rg ns 0 n0.beh n0.at_ = spanF T rg (ns.drop 0) 0 n0.beh n0.at_), HBC.out⟩
  case round =>
   obtain ⟨k, a, b, hk, rfl, rfl, rfl, HF, hbr⟩ := hrel
   obtain ⟨b0, b1, bl⟩ := HCC.out _ hbr
   have hln := HLE.out _ hbr
   by_cases hlt : k < m
   ·have hkl : k < ns.length := by have := HM.out; omega
    obtain ⟨n, hn⟩ : ∃ n, ns[k]? = some n := ⟨ns[k], List.getElem?_eq_getElem hkl⟩
    have hdr : ns.drop k = n :: ns.drop (k + 1) := by
     rw [List.drop_eq_getElem_cons hkl]; rw [List.getElem?_eq_getElem hkl] at hn; simp only [Option.some.injEq] at hn; rw [hn]
    have hst := HF.out
    rw [hdr] at hst
    simp only [spanF] at hst
    have HST : Hid _ := hst
    have HN : Hid _ := hn
    clear hst hdr hn HF hbr hkl
    go_wp2_with fail
    refine hln.mono ?_
    rintro _ w1 ⟨rfl, hb1⟩
    have hme := HME.out w1 hb1 k hlt
    clear hln b0 b1 bl
    obtain ⟨b0, b1, bl⟩ := HCC.out _ hb1
    have HB1 : Hid _ := hb1
    clear hb1
    go_wp2_with fail
    refine hme.mono ?_
    rintro _ w2 ⟨rfl, hb2⟩
    clear hme b0 b1 bl
    obtain ⟨b0, b1, bl⟩ := HCC.out _ hb2
    have hno := HNO.out w2 hb2 k n HN.out
    have HB2 : Hid _ := hb2
    clear hb2
    cases hmm : (knownT T (k : Int)).has rg with
    | false =>
     have hst := HST.out
     rw [hmm, if_neg (by decide)] at hst
     have HST2 : Hid _ := hst
     clear hst HST hno hmm
     go_wp2
     go_roundw
     case rel => exact ⟨k + 1, a, b, by omega, by go_num, rfl, rfl, HST2.out, HB2.out⟩
     case measure => simp [intOf]; omega
    | true =>
     have hst := HST.out
     rw [hmm, if_pos rfl] at hst
     have HST2 : Hid _ := hst
     clear hst HST hmm
     go_wp2_with fail
     refine hno.mono ?_
     rintro _ w3 ⟨rfl, hb3, _⟩
     have HB3 : Hid _ := belY_al hb3 (nrO n)
     unfold nrO nrC at HB3
     clear hb3 hno
     by_cases ha : n.at_ < a
     ·have qa : (n.at_ : Int) < (a : Int) := by omega
      by_cases hb : b < n.beh
      ·have qb : (b : Int) < (n.beh : Int) := by omega
       have hst := HST2.out
       rw [if_pos ha, if_pos hb] at hst
       have HST3 : Hid _ := hst
       clear hst HST2 ha hb
       go_wp2
       go_roundw
       case rel => exact ⟨k + 1, n.at_, n.beh, by omega, by go_num, rfl, rfl, HST3.out, HB3.out⟩
       case measure => simp [intOf]; omega
      ·have qb : ¬ (b : Int) < (n.beh : Int) := by omega
       have hst := HST2.out
       rw [if_pos ha, if_neg hb] at hst
       have HST3 : Hid _ := hst
       clear hst HST2 ha hb
       go_wp2
       go_roundw
       case rel => exact ⟨k + 1, n.at_, b, by omega, by go_num, rfl, rfl, HST3.out, HB3.out⟩
       case measure => simp [intOf]; omega
     ·have qa : ¬ (n.at_ : Int) < (a : Int) := by omega
      by_cases hb : b < n.beh
      ·have qb : (b : Int) < (n.beh : Int) := by omega
       have hst := HST2.out
       rw [if_neg ha, if_pos hb] at hst
       have HST3 : Hid _ := hst
       clear hst HST2 ha hb
       go_wp2
       go_roundw
       case rel => exact ⟨k + 1, a, n.beh, by omega, by go_num, rfl, rfl, HST3.out, HB3.out⟩
       case measure => simp [intOf]; omega
      ·have qb : ¬ (b : Int) < (n.beh : Int) := by omega
       have hst := HST2.out
       rw [if_neg ha, if_neg hb] at hst
       have HST3 : Hid _ := hst
       clear hst HST2 ha hb
       go_wp2
       go_roundw
       case rel => exact ⟨k + 1, a, b, by omega, by go_num, rfl, rfl, HST3.out, HB3.out⟩
       case measure => simp [intOf]; omega
   ·have HRA : Hid (R = (a, b)) := by
     have hd : ns.drop k = [] := List.drop_eq_nil_of_le (by have := HM.out; omega)
     have hst := HF.out
     rw [hd] at hst
     rw [HRR.out, hst]; exact rfl
    have HBR : Hid _ := hbr
    clear hbr HF
    go_wp2_with fail
    refine hln.mono ?_
    rintro _ w1 ⟨rfl, hb1⟩
    have HB1 : Hid _ := hb1
    clear hb1 hln
    go_wp2
    refine bodyPost_ret (v := .tuple #[.int .i64 a, .int .i64 b]) (by simp [results, Tryz.results136, go_sem]) rfl ⟨by rw [HRA.out], HB1.out⟩
end Go.Proofs.YtpicaknklgccoaaGreatDoor
