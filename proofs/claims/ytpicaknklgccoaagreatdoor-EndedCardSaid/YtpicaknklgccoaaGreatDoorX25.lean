import Derived.Test.YtpicaknklgccoaaGreatDoorX23
import Derived.Test.YtpicaknklgccoaaGreatDoorX24
import Derived.Test.YtpicaknklgccoaaGreatDoorX16
import Derived.Test.YtpicaknklgccoaaGreatDoorX6
import Derived.Test.YtpicaknklgccoaaGreatDoorX7
import Derived.Test.YtpicaknklgccoaaGreatDoorX17
import Derived.Test.YtpicaknklgccoaaGreatDoorX19
import Derived.Test.YtpicaknklgccoaaGreatDoorX14
import Derived.Test.YtpicaknklgccoaaGreatDoorX12
import Derived.Test.YtpicaknklgccoaaGreatDoorX13
import Derived.Test.YtpicaknklgccoaaGreatDoorX2
import Derived.Deep.RegionHeld3
namespace Go.Proofs.YtpicaknklgccoaaGreatDoor
theorem turns_keep (f : Vl → ESt → Vl × ESt) (k : Nat) (v : Vl) (st : ESt) (h : st.e ≠ 0) : (turns f k v st).2 = st := by
 cases k with
 | zero => rfl
 | succ k => simp only [turns]; rw [if_pos h]
theorem mTurns_keep (i : Int) (f : MM → MV × MM) (k : Nat) (v : MV) (m : MM) (h : m.fault ≠ 0) : (mTurns i f k v m).2 = m := by
 cases k with
 | zero => rfl
 | succ k => simp only [mTurns]; rw [if_pos h]
theorem NoNew.kids {p : Nat} {k : Kw} {nm rg : List UInt8} {kids : List PT} (h : NoNew (.node p k nm rg kids)) : k ≠ .new ∧ ∀ x ∈ kids, NoNew x := by
 cases h with
 | node hk h => exact ⟨hk, h⟩
theorem Both.name {st : ESt} {m : MM} (h : Both st m) (i : Int) (v : MV) : Both st (m.name i v) := ⟨h.1, by rw [(name_fault m i v).1]; exact h.2⟩
end Go.Proofs.YtpicaknklgccoaaGreatDoor
namespace Go.Proofs.YtpicaknklgccoaaGreatDoor
open Go.RowKit
theorem use_keep (m : MM) (v : MV) (h : m.fault ≠ 0) : (m.use v).2 = m := by
 unfold MM.use; split
 ·rfl
 ·simp only; split
  ·rfl
  ·exact stop_keep m 13 h
theorem text_keep : ∀ (X : Vl) (v : MV) (m : MM), m.fault ≠ 0 → mText X v m = m
 | .n _, _, _, _ => rfl
 | .p a b, v, m, h => by
  simp only [mText]
  rw [use_keep m v h, text_keep a _ m h, text_keep b _ m h]
theorem rep_size {cells : List MC} : ∀ {X : Vl} {T : Ty}, X.has T → X.size = T.size
 | .n _, .n, _ => rfl
 | .p a b, .p _ A B, h => by
  simp only [Vl.has] at h
  simp only [Vl.size, Ty.size]
  rw [rep_size (cells := cells) h.1, rep_size (cells := cells) h.2]
 | .n _, .p _ _ _, h => by simp [Vl.has] at h
 | .p _ _, .n, h => by simp [Vl.has] at h
def evalV (y : Vl × ESt) : Value := if y.2.e ≠ 0 then .agg #[.string ⟨#[]⟩, .int .i64 0, .int .i64 0, .int .i64 0, .int .i64 0] else .agg #[.string (bs y.1.txt), .int .i64 y.2.steps, .int .i64 y.2.cells, .int .i64 y.2.cells, .int .i64 y.2.cells]
theorem own_neH {w : World} {base : Nat} {e : TypeId} {size : Nat} {v : Value} {n : Nat} {xs : List Value} (h : w.ownsRow base e size v n xs) {b : Nat} {arr : Array Value} {t : TypeId} {fr : Nat × Nat} (hb : w.heap[b]? = some (.cells arr t fr)) (ht : t ≠ e) : ∀ k, v.ownBlock = some k → k ≠ b := by
 intro k hk hkb
 rcases h.2 with ⟨h1, _⟩ | ⟨g, cap, cur, h1, _, hh, _⟩
 ·rw [h1] at hk; simp [Value.ownBlock] at hk
 ·rw [h1] at hk
  simp [Value.ownBlock] at hk
  rw [hk, hkb, hb] at hh
  simp only [Option.some.injEq, Obj.cells.injEq] at hh
  exact ht hh.2.1
set_option maxRecDepth 100000 in
set_option maxHeartbeats 4000000 in
theorem readPlain_pg (s : ByteArray) (w : World) (hs : s.size ≤ 3000) (e : PT) (hp : PE false (tokens s.data.toList) e []) : Calls Tryz.prog 31 #[.string s] w fun v w' => ∃ x1 n1 c1 x2 n2 c2 ns, v = .returned (.tuple #[treeV (.slice x1 n1 c1) (.slice x2 n2 c2), .int .i64 (chkAns e).1, .int .i64 (chkAns e).2]) ∧ Below w.heap.size w w' ∧ TreeIn w' (.slice x1 n1 c1) (.slice x2 n2 c2) ns (opn e 0) ∧ NA [] e 0 ns ∧ (pProg false s.size (tokens s.data.toList)).nodes = ns := by
 obtain ⟨ns, hna, hpg⟩ := prog_yes (len := s.size) hp
 have hcnt := Study_len hp
 have hnl := hna.len
 have hpp := fun w => ParsePlain_any s w (by omega)
 have hpr := fun (w : World) (nv ov : Value) (h : TreeIn w nv ov ns (opn e 0)) => Program_any w nv ov ns (opn e 0) h (op_ok hna) (by omega) (hna.small (fun _ h => by simp at h) (by omega)) (fun j n hj => by have := hna.back j n hj; simpa using this)
 rw [prog_ans hna] at hpr
 have HPG : Hid _ := hpg
 have HPR : Hid _ := hpr
 have hnd : (pProg false s.size (tokens s.data.toList)).nodes = ns := by rw [hpg]
 have HNA : Hid _ := And.intro hna hnd
 clear hp hna hpg hpr hnl hnd
 generalize chkAns e = ans at *
 go_enter Tryz.func31, Tryz.ntmps31
 go_wp2_with fail
 refine (hpp _).mono ?_
 rintro v w1 ⟨hb, hv⟩
 have hr := kept1 hb
 have hlt := blk_lt hr
 have HB : Hid _ := below1 hb
 have HR : Hid _ := hr
 rcases hv with ⟨q', hq', _⟩ | ⟨_, nv, ov, rfl, hT⟩
 ·rw [HPG.out] at hq'; cases hq'
 ·rw [HPG.out] at hT
  simp only at hT
  obtain ⟨x1, c1, e1⟩ := slice_any hT.nd
  obtain ⟨x2, c2, e2⟩ := slice_any hT.op
  have HNN : Hid _ := own_neH hT.nd hr (by decide)
  have HNO : Hid _ := own_neH hT.op hr (by decide)
  have hT1 := hT.below ((Below.refl _ w1).alloc (Nat.le_refl _) (.cells #[nv, ov] 59))
  have hpr := HPR.out (w1.alloc (.cells #[nv, ov] 59)) nv ov (hT.below ((Below.refl _ w1).alloc (Nat.le_refl _) _))
  subst e1
  subst e2
  unfold treeV at hpr
  unfold treeV
  clear hT hb hr hpp
  go_wp2_with fail
  refine hpr.mono ?_
  rintro _ w2 ⟨rfl, hb2⟩
  have HT2 : Hid _ := hT1.below hb2
  have hk := kept1 hb2
  have k0 : w2.cell? ⟨w1.heap.size, 0, none⟩ = some (.slice x1 ns.length c1) := by rw [blk_cell hk]; rfl
  have k1 : w2.cell? ⟨w1.heap.size, 1, none⟩ = some (.slice x2 (opn e 0).length c2) := by rw [blk_cell hk]; rfl
  have hr2 : w2.heap[w.heap.size]? = some (.cells #[.slice none 0 0, .slice none 0 0] 59 (0, 0)) := by
   rw [hb2.block _ (by simp; omega)]; exact blk_alloc _ HR.out
  have r0 : w2.cell? ⟨w.heap.size, 0, none⟩ = some (.slice none 0 0) := by rw [blk_cell hr2]; rfl
  have r1 : w2.cell? ⟨w.heap.size, 1, none⟩ = some (.slice none 0 0) := by rw [blk_cell hr2]; rfl
  have f0 := blk_free hr2 0
  have f1 := blk_free hr2 1
  have hB2 : Below w.heap.size w w2 := HB.out.trans ((below1 hb2).mono HB.out.size)
  have HB2 : Hid _ := hB2
  have hne : w.heap.size ≠ w1.heap.size := by omega
  clear hk hr2 hb2 hB2 hpr
  go_wp2
  refine bodyPost_ret (v := .tuple #[.agg #[.slice x1 ns.length c1, .slice x2 (opn e 0).length c2], .int .i64 ans.1, .int .i64 ans.2]) (by simp [results, Tryz.results31, go_sem, r0, r1]) rfl ⟨x1, ns.length, c1, x2, (opn e 0).length, c2, ns, rfl, ?_, ⟨owns_blk HT2.out.nd (fun k hk => by rw [blk_other _ _ (by simpa using HNN.out k hk), blk_other _ _ (by simpa using HNN.out k hk)]), owns_blk HT2.out.op (fun k hk => by rw [blk_other _ _ (by simpa using HNO.out k hk), blk_other _ _ (by simpa using HNO.out k hk)])⟩, HNA.out⟩
  exact (HB2.out.setCell (p := ⟨w.heap.size, 0, none⟩) (Nat.le_refl _) _).setCell (p := ⟨w.heap.size, 1, none⟩) (Nat.le_refl _) _
end Go.Proofs.YtpicaknklgccoaaGreatDoor
namespace Go.Proofs.YtpicaknklgccoaaGreatDoor
def posOf (len : Nat) : List Tk → Nat
 | [] => len
 | t :: _ => t.at_
theorem posOf_cons (len : Nat) (t : Tk) (r : List Tk) : posOf len (t :: r) = t.at_ := rfl
theorem posOf_nil (len : Nat) : posOf len [] = len := rfl
def TkOk (len : Nat) : List Tk → Prop
 | [] => True
 | t :: r => 0 < t.s.length ∧ t.at_ + t.s.length ≤ posOf len r ∧ TkOk len r
theorem toks_okU (len : Nat) : ∀ (f p : Nat) (l : List UInt8), p + l.length = len → TkOk len (toks f p l) ∧ p ≤ posOf len (toks f p l)
 | 0, p, l, h => by simp only [toks, TkOk, posOf_nil, true_and]; omega
 | f + 1, p, [], h => by simp only [toks, TkOk, posOf_nil, true_and]; simp at h; omega
 | f + 1, p, c :: r, h => by
  simp only [List.length_cons] at h
  simp only [toks]
  split
  ·have := toks_okU len f (p + 1) r (by omega)
   exact ⟨this.1, by omega⟩
  ·have hp := tokenOf_pos (c :: r)
   have hl := tokenOf_le (c :: r) (by simp)
   simp only [List.length_cons] at hl
   have := toks_okU len f (p + (tokenOf (c :: r)).1) ((c :: r).drop (tokenOf (c :: r)).1) (by simp only [List.length_drop, List.length_cons]; omega)
   simp only [TkOk, posOf_cons, List.length_take, List.length_cons]
   exact ⟨⟨by omega, by omega, this.1⟩, Nat.le_refl _⟩
theorem tokens_okU (l : List UInt8) : TkOk l.length (tokens l) := (toks_okU l.length l.length 0 l (by omega)).1
mutual
def PosN : PT → List NR → Nat → Nat → Prop
 | .num p _, ns, lo, hi => ∃ n, ns = [n] ∧ n.at_ = p ∧ lo ≤ p ∧ p < n.beh ∧ n.beh ≤ hi
 | .name p _, ns, lo, hi => ∃ n, ns = [n] ∧ n.at_ = p ∧ lo ≤ p ∧ p < n.beh ∧ n.beh ≤ hi
 | .node p _ _ _ kids, ns, lo, hi => ∃ ks n, ns = ks ++ [n] ∧ n.at_ = p ∧ lo ≤ p ∧ PosNs kids ks (p + 1) n.beh ∧ p < n.beh ∧ n.beh ≤ hi
def PosNs : List PT → List NR → Nat → Nat → Prop
 | [], ns, lo, hi => ns = [] ∧ lo ≤ hi
 | t :: r, ns, lo, hi => ∃ a c mid, ns = a ++ c ∧ PosN t a lo mid ∧ PosNs r c mid hi
end
theorem PosN.lo {t : PT} {ns : List NR} {lo lo' hi : Nat} (h : PosN t ns lo hi) (hl : lo' ≤ lo) : PosN t ns lo' hi := by
 cases t with
 | num p s => simp only [PosN] at h ⊢; obtain ⟨n, h1, h2, h3, h4⟩ := h; exact ⟨n, h1, h2, by omega, h4⟩
 | name p s => simp only [PosN] at h ⊢; obtain ⟨n, h1, h2, h3, h4⟩ := h; exact ⟨n, h1, h2, by omega, h4⟩
 | node p k nm rg kids => simp only [PosN] at h ⊢; obtain ⟨ks, n, h1, h2, h3, h4⟩ := h; exact ⟨ks, n, h1, h2, by omega, h4⟩
theorem PosNs.lo {ts : List PT} {ns : List NR} {lo lo' hi : Nat} (h : PosNs ts ns lo hi) (hl : lo' ≤ lo) : PosNs ts ns lo' hi := by
 cases ts with
 | nil => simp only [PosNs] at h ⊢; exact ⟨h.1, by omega⟩
 | cons t r => simp only [PosNs] at h ⊢; obtain ⟨a, c, mid, h1, h2, h3⟩ := h; exact ⟨a, c, mid, h1, h2.lo hl, h3⟩
theorem PosNs.hi : ∀ {ts : List PT} {ns : List NR} {lo hi hi' : Nat}, PosNs ts ns lo hi → hi ≤ hi' → PosNs ts ns lo hi'
 | [], _, _, _, _, h, hl => by simp only [PosNs] at h ⊢; exact ⟨h.1, by omega⟩
 | t :: r, _, _, _, _, h, hl => by simp only [PosNs] at h ⊢; obtain ⟨a, c, mid, h1, h2, h3⟩ := h; exact ⟨a, c, mid, h1, h2, h3.hi hl⟩
theorem PosN.lt {t : PT} {ns : List NR} {lo hi : Nat} (h : PosN t ns lo hi) : lo < hi := by
 cases t with
 | num p s => simp only [PosN] at h; obtain ⟨n, h1, h2, h3, h4⟩ := h; omega
 | name p s => simp only [PosN] at h; obtain ⟨n, h1, h2, h3, h4⟩ := h; omega
 | node p k nm rg kids => simp only [PosN] at h; obtain ⟨ks, n, h1, h2, h3, h4⟩ := h; omega
theorem PosNs.le : ∀ {ts : List PT} {ns : List NR} {lo hi : Nat}, PosNs ts ns lo hi → lo ≤ hi
 | [], _, _, _, h => by simp only [PosNs] at h; exact h.2
 | t :: r, _, _, _, h => by simp only [PosNs] at h; obtain ⟨a, c, mid, h1, h2, h3⟩ := h; have := h2.lt; have := h3.le; omega
def YesP (placed : Bool) (len : Nat) (pE : PS → Int × PS) (m : Nat) : Prop := ∀ (l : List Tk) (e : PT) (r : List Tk), PE placed l e r → l.length ≤ m → TkOk len l → ∀ st : PS, st.l = l → st.fl = none →
 ∃ ns, (pE st).2.nodes = st.nodes ++ ns ∧ PosN e ns (posOf len l) (posOf len r)
theorem body_pos {placed : Bool} {len : Nat} {pE : PS → Int × PS} {m : Nat} (hY : YesP placed len pE m) (w : List UInt8) (src : Int) {l : List Tk} {e : PT} {r : List Tk} (h : PE placed l e r) (hm : l.length ≤ m) (ht : TkOk len l) (st : PS) (hl : st.l = l) (hf : st.fl = none) :
  ∃ ns, (pBody pE w src st).2.nodes = st.nodes ++ ns ∧ PosN e ns (posOf len l) (posOf len r) := hY l e r h hm ht { st with scope := st.scope ++ [(w, src)] } hl hf
mutual
theorem PE.tkok {placed : Bool} {len : Nat} : ∀ {l : List Tk} {e : PT} {r : List Tk}, PE placed l e r → TkOk len l → TkOk len r ∧ posOf len l ≤ posOf len r
 | _, _, _, .num _, h => by simp only [TkOk] at h; exact ⟨h.2.2, by simp only [posOf_cons]; omega⟩
 | _, _, _, .name _, h => by simp only [TkOk] at h; exact ⟨h.2.2, by simp only [posOf_cons]; omega⟩
 | _, _, _, .node _ _ _ h4, h => by
  simp only [TkOk] at h
  have := PW.tkok h4 h.2.2.2.2
  have h1 := h.2.1
  simp only [posOf_cons] at h1 ⊢
  exact ⟨this.1, by omega⟩
theorem PW.tkok {placed : Bool} {len : Nat} : ∀ {ws : List Wt} {l : List Tk} {nm rg : List UInt8} {kids : List PT} {r : List Tk}, PW placed ws l nm rg kids r → TkOk len l → TkOk len r ∧ posOf len l ≤ posOf len r
 | _, _, _, _, _, _, .nil, h => ⟨h, Nat.le_refl _⟩
 | _, _, _, _, _, _, .close _ h1, h => by simp only [TkOk] at h; have := PW.tkok h1 h.2.2; simp only [posOf_cons]; exact ⟨this.1, by omega⟩
 | _, _, _, _, _, _, .name _ h1, h => by simp only [TkOk] at h; have := PW.tkok h1 h.2.2; simp only [posOf_cons]; exact ⟨this.1, by omega⟩
 | _, _, _, _, _, _, .region _ h1, h => by simp only [TkOk] at h; have := PW.tkok h1 h.2.2; simp only [posOf_cons]; exact ⟨this.1, by omega⟩
 | _, _, _, _, _, _, .e h0 h1, h => by have a := PE.tkok h0 h; have b := PW.tkok h1 a.1; exact ⟨b.1, by omega⟩
end
theorem ins_pos {placed : Bool} (len : Nat) {pE : PS → Int × PS} {m : Nat} (hY : YesE placed pE m) (hP : YesP placed len pE m) : ∀ (is : List Ins) (l : List Tk) (nm rg : List UInt8) (kids : List PT) (r : List Tk), PW placed (is.map Ins.wt ++ [.close]) l nm rg kids r →
  l.length ≤ m → TkOk len l → ∀ (st : PS) (fs : FS), st.l = l → st.fl = none →
  ∃ t ns, (pIns len pE is fs st).2.l = t :: r ∧ (pIns len pE is fs st).2.nodes = st.nodes ++ ns ∧ PosNs kids ns (posOf len l) t.at_ ∧ 0 < t.s.length ∧ t.at_ + t.s.length ≤ posOf len r := by
 intro is
 induction is with
 | nil =>
  intro l nm rg kids r h hm ht st fs hl hf
  simp only [List.map_nil, List.nil_append] at h
  cases h with
  | close hc h1 =>
   cases h1
   simp only [TkOk] at ht
   refine ⟨_, [], by simp only [pIns]; exact hl, by simp only [pIns, List.append_nil], ?_, ht.1, ht.2.1⟩
   simp only [PosNs, posOf_cons, true_and]; exact Nat.le_refl _
 | cons i is ih =>
  intro l nm rg kids r h hm ht st fs hl hf
  cases i with
  | name =>
   simp only [List.map_cons, Ins.wt, List.cons_append] at h
   cases h with
   | name hc h1 =>
    rename_i t r1 nm1
    simp only [List.length_cons] at hm
    simp only [TkOk] at ht
    have hk : (tk1 len st.l).kind = 4 := by rw [hl]; exact (kindN_nam _).2 hc
    have hex : st.expect len 4 = { st with l := r1 } := by
     unfold PS.expect; rw [if_neg (by simp [hk])]; simp [PS.tail, hl]
    obtain ⟨t', ns, h2, h3, h4, h5⟩ := ih r1 nm1 rg kids r h1 (by omega) ht.2.2 { st with l := r1 } { fs with word := (tk1 len st.l).word } rfl hf
    refine ⟨t', ns, ?_, ?_, h4.lo (by simp only [posOf_cons]; omega), h5⟩
    ·simp only [pIns]; rw [hex]; exact h2
    ·simp only [pIns]; rw [hex]; exact h3
  | region =>
   simp only [List.map_cons, Ins.wt, List.cons_append] at h
   cases h with
   | region hc h1 =>
    rename_i t r1 rg1
    simp only [List.length_cons] at hm
    simp only [TkOk] at ht
    have hk : (tk1 len st.l).kind = 6 := by rw [hl]; exact (kindN_reg _).2 hc
    have hex : st.expect len 6 = { st with l := r1 } := by
     unfold PS.expect; rw [if_neg (by simp [hk])]; simp [PS.tail, hl]
    obtain ⟨t', ns, h2, h3, h4, h5⟩ := ih r1 nm rg1 kids r h1 (by omega) ht.2.2 { st with l := r1 } { fs with region := (tk1 len st.l).num } rfl hf
    refine ⟨t', ns, ?_, ?_, h4.lo (by simp only [posOf_cons]; omega), h5⟩
    ·simp only [pIns]; rw [hex]; exact h2
    ·simp only [pIns]; rw [hex]; exact h3
  | e =>
   simp only [List.map_cons, Ins.wt, List.cons_append] at h
   cases h with
   | e he h1 =>
    rename_i e r1 kids1
    have hlt := he.len
    have htk := he.tkok ht
    obtain ⟨ns1, hn1, hp1⟩ := hY l e r1 he hm st hl hf
    obtain ⟨ns0, hq0, hpos⟩ := hP l e r1 he hm ht st hl hf
    obtain ⟨t', ns, h2, h3, h4, h5⟩ := ih r1 nm rg kids1 r h1 (by omega) htk.1 (pE st).2 { fs with parts := fs.parts ++ [(pE st).1] } (by rw [hp1]) (by rw [hp1]; exact hf)
    refine ⟨t', ns0 ++ ns, ?_, ?_, ?_, h5⟩
    ·simp only [pIns]; exact h2
    ·simp only [pIns]; rw [h3, hq0, List.append_assoc]
    ·simp only [PosNs]; exact ⟨ns0, ns, _, rfl, hpos, h4⟩
  | body =>
   simp only [List.map_cons, Ins.wt, List.cons_append] at h
   cases h with
   | e he h1 =>
    rename_i e r1 kids1
    have hlt := he.len
    have htk := he.tkok ht
    obtain ⟨ns1, hn1, hp1⟩ := body_yes hY fs.word (fs.parts.getLastD (-1)) he hm st hl hf
    obtain ⟨ns0, hq0, hpos⟩ := body_pos hP fs.word (fs.parts.getLastD (-1)) he hm ht st hl hf
    obtain ⟨t', ns, h2, h3, h4, h5⟩ := ih r1 nm rg kids1 r h1 (by omega) htk.1 (pBody pE fs.word (fs.parts.getLastD (-1)) st).2 { fs with parts := fs.parts ++ [(pBody pE fs.word (fs.parts.getLastD (-1)) st).1] } (by rw [hp1]) (by rw [hp1]; exact hf)
    refine ⟨t', ns0 ++ ns, ?_, ?_, ?_, h5⟩
    ·simp only [pIns]; exact h2
    ·simp only [pIns]; rw [h3, hq0, List.append_assoc]
    ·simp only [PosNs]; exact ⟨ns0, ns, _, rfl, hpos, h4⟩
theorem expr_pos (placed : Bool) (len : Nat) : ∀ n : Nat, YesP placed len (pExpr placed len n) n := by
 intro n
 induction n with
 | zero =>
  intro l e r h hm
  obtain ⟨t, r', he, _⟩ := h.suffix
  rw [he] at hm; simp at hm
 | succ m ih =>
  intro l e r h hm ht st hl hf
  cases h with
  | num hc =>
   rename_i t
   simp only [TkOk] at ht
   obtain ⟨ns, hn, hp⟩ := (expr_all placed len (m + 1)).1 _ _ _ (PE.num hc) hm st hl hf
   simp only [NA] at hn
   subst hn
   refine ⟨_, by rw [hp], ⟨_, rfl, rfl, Nat.le_refl _, ?_⟩⟩
   simp only; exact ⟨by omega, ht.2.1⟩
  | name hc =>
   rename_i t
   simp only [TkOk] at ht
   obtain ⟨ns, hn, hp⟩ := (expr_all placed len (m + 1)).1 _ _ _ (PE.name hc) hm st hl hf
   simp only [NA] at hn
   subst hn
   refine ⟨_, by rw [hp], ⟨_, rfl, rfl, Nat.le_refl _, ?_⟩⟩
   simp only; exact ⟨by omega, ht.2.1⟩
  | node hc hk hw h4 =>
   rename_i t u k r0 nm rg kids
   have hkf : ¬ (formN (kindN u.c) = 0 ∨ (formN (kindN u.c) = 12 ∧ placed = false)) := by
    rw [form_wants, hk]; exact hw
   rw [insK_wants k placed hw] at h4
   simp only [List.length_cons] at hm
   simp only [TkOk] at ht
   obtain ⟨c, ns, h1, h2, h3, h5, h6⟩ := ins_pos len (expr_all placed len m).1 ih (insK k placed) r0 nm rg kids r h4 (by omega) ht.2.2.2.2 { st with opened := st.opened ++ [-1], l := r0 } ⟨[], [], 0⟩ rfl hf
   obtain ⟨c', ns', h1', _, h3'⟩ := ins_yes len (expr_all placed len m).1 (insK k placed) r0 nm rg kids r h4 (insK_wf k placed) (by omega)
     { st with opened := st.opened ++ [-1], l := r0 } ⟨[], [], 0⟩ nm rfl hf (fun e => absurd e (insK_head k placed)) (by
      split
      ·rfl
      ·rename_i hn
       have : Wt.name ∉ (insK k placed).map Ins.wt ++ [.close] := by
        intro hh
        rcases List.mem_append.1 hh with hh | hh
        ·obtain ⟨i, hi, e⟩ := List.mem_map.1 hh
         cases i with
         | name => exact hn (by simpa using hi)
         | _ => cases e
        ·simp at hh
       exact (PW.noname h4 this).symm)
   have hcc : c = c' := by rw [h3'] at h1; simp only at h1; cases h1; rfl
   subst hcc
   have h21 := ht.2.1
   simp only [posOf_cons] at h21
   have h22 := ht.2.2.2.1
   refine ⟨ns ++ [{ NR.filled ⟨formK k, t.at_, t.at_ + t.s.length, 0, [], 0, -1, -1, -1, -1⟩ (pIns len (pExpr placed len m) (insK k placed) ⟨[], [], 0⟩ { st with opened := st.opened ++ [-1], l := r0 }).1 with beh := c.at_ + c.s.length }], ?_, ⟨ns, _, rfl, rfl, Nat.le_refl _, ?_, ?_, h6⟩⟩
   ·show (pSeat (pAny len (pBracket placed len (pExpr placed len m))) st).2.nodes = _
    unfold pSeat
    rw [any_open len _ { st with opened := st.opened ++ [-1] } hl hc]
    unfold pBracket
    have htk : tk1 len (u :: r0) = tnOf u := rfl
    simp only [htk]
    rw [if_neg (by simpa [tnOf] using hkf)]
    have hform : formN (tnOf u).kind = formK k := by simp [tnOf, hk, formK]
    rw [hform, pFill_ins placed len _ k hw]
    simp only [PS.tail, List.tail_cons]
    have hkc : (tk1 len (c :: r)).kind = 3 := (kindN_cls _).2 h1'
    simp only [PS.expect, h1, hkc]
    rw [if_neg (by simp)]
    simp only [PS.tail, PS.add, h2, List.append_assoc]
    rfl
   ·exact (h3.lo (by omega)).hi (by show c.at_ ≤ c.at_ + c.s.length; omega)
   ·have hlo : posOf len r0 ≤ c.at_ := h3.le
    show t.at_ < c.at_ + c.s.length
    omega
theorem fail_nodes (a : Nat) (st : PS) : (st.fail a).nodes = st.nodes := by unfold PS.fail; split <;> rfl
theorem expect_nodes (len k : Nat) (st : PS) : (st.expect len k).nodes = st.nodes := by
 unfold PS.expect
 split
 ·rw [fail_nodes]; rfl
 ·rfl
theorem prog_pos {placed : Bool} {len : Nat} {l : List Tk} {e : PT} (h : PE placed l e []) (ht : TkOk len l) : PosN e (pProg placed len l).nodes (posOf len l) len := by
 obtain ⟨ns, h1, h2⟩ := expr_pos placed len l.length l e [] h (Nat.le_refl _) ht (ps0 l) rfl rfl
 unfold pProg
 rw [expect_nodes, h1]
 exact h2
end Go.Proofs.YtpicaknklgccoaaGreatDoor
namespace Go.Proofs.YtpicaknklgccoaaGreatDoor
open Go.RowKit
set_option maxRecDepth 100000 in
set_option maxHeartbeats 8000000 in
theorem pProgram_any (w : World) (x1 : Option Addr) (n1 c1 : Nat) (x2 : Option Addr) (n2 c2 : Nat) (ns : List NR) (op : List Int) (hT : TreeIn w (.slice x1 n1 c1) (.slice x2 n2 c2) ns op) (ho : OpOk ns op) (hl : ns.length ≤ 9000) (hsm : ∀ n ∈ ns, n.small) (n0 : NR) (h0 : ns[ns.length - 1]? = some n0) (hB : n0.beh ≤ 9000) (hat : ∀ n ∈ ns, n.at_ < n0.beh) (hsz : SzOk [] (ns.map atR)) (E fs : List Nat) (hE : E = shE [] (List.range n0.beh) ns) (hfs : fs = firstsL E (opNs ns op))
  (ns2 : List NR) (h2 : ∀ (k : Nat) n r, ns[k]? = some n → (regsL E fs ns)[k]? = some r → ns2.drop k = setR n r :: ns2.drop (k + 1) ∧ (n.form = 4 → 0 ≤ r)) (h2l : ns2.length = ns.length) (hsz2 : SzOk [] ns2) :
  Calls Tryz.prog 35 #[treeV (.slice x1 n1 c1) (.slice x2 n2 c2)] w fun e w' => ∃ y1 m1 d1 y2 m2 d2, e = .returned (.agg #[.slice y1 m1 d1, .slice y2 m2 d2]) ∧ LyIn w' ⟨.slice y1 m1 d1, .slice y2 m2 d2, regsL E fs ns, newsL (tyRun [] ns2) ns n0 fs.length⟩ ∧ Below w.heap.size w w' := by
 have hrl : (regsL E fs ns).length = ns.length := by unfold regsL; rw [List.length_map]
 have hnl : (newsL (tyRun [] ns2) ns n0 fs.length).length = fs.length := by unfold newsL; rw [List.length_map, List.length_range]
 have hfl : fs.length ≤ 9000 := by have := firstsL_len E (opNs ns op); rw [opNs_len, ho.1] at this; rw [hfs]; omega
 have hre := fun (W : World) (hb : Below w.heap.size w W) => regionsOf_any W x1 n1 c1 x2 n2 c2 ns op (hT.below hb) ho hl hsm n0 h0 hB hat hsz E fs hE hfs
 have hne := fun (W : World) (hb : Below w.heap.size w W) (rv : Value) (hrv : W.ownsRow 0 3 1 rv (regsL E fs ns).length (intVs (regsL E fs ns))) => pnewsOf_any W x1 n1 c1 x2 n2 c2 ns op (hT.below hb) hl hsm n0 h0 rv (regsL E fs ns) hrv hrl fs.length hfl ns2 h2 h2l hsz2
 unfold treeV at hre hne
 unfold treeV
 have HRE : Hid _ := hre
 have HNE : Hid _ := hne
 have HRL : Hid _ := hrl
 have HNL : Hid _ := hnl
 generalize newsL (tyRun [] ns2) ns n0 fs.length = news at *
 generalize regsL E fs ns = regs at *
 generalize fs.length = cn at *
 generalize ns.length = m at *
 clear hre hne hrl hnl hT ho hsm h0 hat hsz hE hfs h2 h2l hsz2
 obtain ⟨WB, hWB⟩ : ∃ WB, WB = (w.alloc (.cells #[.slice x1 n1 c1, .slice x2 n2 c2] 59)).alloc (.cells #[.slice none 0 0, .slice none 0 0] 73) := ⟨_, rfl⟩
 have hBX : Below w.heap.size w WB := by rw [hWB]; exact belY_al (belY_al (Below.refl _ _) _) _
 have hk0 : WB.heap[w.heap.size]? = some (.cells #[.slice x1 n1 c1, .slice x2 n2 c2] 59 (0, 0)) := by
  have h2 := belY_al (Below.refl (w.alloc (.cells #[.slice x1 n1 c1, .slice x2 n2 c2] 59)).heap.size (w.alloc (.cells #[.slice x1 n1 c1, .slice x2 n2 c2] 59))) (.cells #[.slice none 0 0, .slice none 0 0] 73)
  rw [hWB, h2.block _ (by simp)]; exact blk_new _ _
 have hk1 : WB.heap[w.heap.size + 1]? = some (.cells #[.slice none 0 0, .slice none 0 0] 73 (0, 0)) := by
  have := blk_new (w.alloc (.cells #[.slice x1 n1 c1, .slice x2 n2 c2] 59)) (.cells #[.slice none 0 0, .slice none 0 0] 73 (0, 0))
  rw [hWB]; simpa using this
 have HBX : Hid _ := hBX
 have HK0 : Hid _ := hk0
 have HK1 : Hid _ := hk1
 have HWB : Hid _ := hWB
 have hWs : w.heap.size + 1 < WB.heap.size := blk_lt hk1
 clear hBX hk0 hk1 hWB
 go_enter Tryz.func35, Tryz.ntmps35
 go_wp2_with fail
 rw [← HWB.out]
 refine Calls.mono (HRE.out WB HBX.out) ?_
 rintro _ w1 ⟨rv, rfl, hr1, hb1⟩
 have hk := (hb1.block _ (blk_lt HK0.out)).trans HK0.out
 have a0 : w1.cell? ⟨w.heap.size, 0, none⟩ = some (.slice x1 n1 c1) := by rw [blk_cell hk]; rfl
 have a1 : w1.cell? ⟨w.heap.size, 1, none⟩ = some (.slice x2 n2 c2) := by rw [blk_cell hk]; rfl
 have al := blk_lt hk
 have hr1' : w1.ownsRow 0 3 1 rv regs.length (intVs regs) := by rw [HRL.out]; exact owns_base hr1 (fun _ _ => Nat.zero_le _)
 have hnc := HNE.out w1 (HBX.out.trans (hb1.mono HBX.out.size)) rv hr1'
 obtain ⟨y1, d1, hrv⟩ := slice_any hr1
 subst hrv
 have HR1 : Hid _ := hr1
 have HR1' : Hid _ := hr1'
 have HB1 : Hid _ := hb1
 clear hk hr1' hr1 hb1 HRE HNE
 go_wp2_with fail
 refine Calls.mono hnc ?_
 rintro _ w2 ⟨av, rfl, hr2, hb2⟩
 have HR2 : Hid _ := owns_below HR1'.out hb2
 have hB2 := HB1.out.trans (hb2.mono HB1.out.size)
 have hk2 := (hB2.block _ (blk_lt HK1.out)).trans HK1.out
 have r0 : w2.cell? ⟨w.heap.size + 1, 0, none⟩ = some (.slice none 0 0) := by rw [blk_cell hk2]; rfl
 have r1 : w2.cell? ⟨w.heap.size + 1, 1, none⟩ = some (.slice none 0 0) := by rw [blk_cell hk2]; rfl
 have f0 := blk_free hk2 0
 have f1 := blk_free hk2 1
 have rl := blk_lt hk2
 obtain ⟨y2, d2, hav⟩ := slice_any hr2
 subst hav
 have HN2 : Hid _ := hr2
 have HB2 : Hid _ := HBX.out.trans (hB2.mono HBX.out.size)
 have HK2 : Hid _ := hk2
 have hw12 := hb2.size
 have hW1 := HB1.out.size
 clear hb2 hr2 hB2 hk2 hnc a0 a1 al
 go_wp2
 obtain ⟨WF, hWF⟩ : ∃ WF, WF = (w2.setCell ⟨w.heap.size + 1, 0, none⟩ (.slice y1 m d1)).setCell ⟨w.heap.size + 1, 1, none⟩ (.slice y2 cn d2) := ⟨_, rfl⟩
 have hF : WF.heap[w.heap.size + 1]? = some (.cells #[.slice y1 m d1, .slice y2 cn d2] 73 (0, 0)) := by rw [hWF]; exact blk_set (blk_set HK2.out 0 _) 1 _
 have u0 : WF.cell? ⟨w.heap.size + 1, 0, none⟩ = some (.slice y1 m d1) := by rw [blk_cell hF]; rfl
 have u1 : WF.cell? ⟨w.heap.size + 1, 1, none⟩ = some (.slice y2 cn d2) := by rw [blk_cell hF]; rfl
 rw [← hWF]
 refine bodyPost_ret (v := .agg #[.slice y1 m d1, .slice y2 cn d2]) (by simp [results, Tryz.results35, go_sem, u0, u1]) rfl ⟨_, _, _, _, _, _, rfl, ⟨?_, ?_⟩, ?_⟩
 ·rw [hWF]
  refine owns_blk HR2.out (fun k hk => ?_)
  have h1 := (World.ownsRow.lt HR1.out k hk).1
  rw [blk_other _ _ (by simp only; omega), blk_other _ _ (by simp only; omega)]
 ·rw [hWF]
  have hn := owns_base HN2.out (base' := 0) (fun _ _ => Nat.zero_le _)
  simp only
  rw [HNL.out]
  refine owns_blk hn (fun k hk => ?_)
  have h1 := (World.ownsRow.lt HN2.out k hk).1
  rw [blk_other _ _ (by simp only; omega), blk_other _ _ (by simp only; omega)]
 ·rw [hWF]
  exact HB2.out.trans (bel_set (bel_set (Below.refl _ _) (by omega)) (by omega))
end Go.Proofs.YtpicaknklgccoaaGreatDoor
namespace Go.Proofs.YtpicaknklgccoaaGreatDoor
open Go.Lib (decDigits)
def RgTame (t : Tk) : Prop := t.c = .reg → 0 ≤ valueL t.s ∧ valueL t.s ≤ 999
theorem tok_rg (l : List UInt8) : (tokenOf l).2 = .reg → 0 ≤ valueL (l.take (tokenOf l).1) ∧ valueL (l.take (tokenOf l).1) ≤ 999 := by
 unfold tokenOf
 split
 ·intro h
  simp only [wordCl] at h
  split at h
  ·simp at h
  ·split at h <;> simp at h
 ·split
  ·intro h
   simp only at h
   split at h <;> simp at h
  ·split
   ·simp
   ·rename_i c r _ _
    split
    ·rename_i hc
     intro h
     simp only at h
     split at h
     ·rename_i hn
      simp only [numeralB, Bool.and_eq_true, decide_eq_true_eq] at hn
      have hf := dig_fold (r.take (run 48 57 r)) 0 (fun c hc => run_memT 48 57 r c hc) (by omega)
      have hp : 10 ^ (r.take (run 48 57 r)).length ≤ 10 ^ 3 := Nat.pow_le_pow_right (by omega) hn.1.2
      simp only [List.take_succ_cons]
      unfold valueL
      rw [List.foldl_cons, if_pos hc]
      omega
     ·simp at h
    ·intro h
     simp only at h
     split at h
     ·simp at h
     ·split at h <;> simp at h
theorem tokens_rg (l : List UInt8) : ∀ t ∈ tokens l, RgTame t := by
 intro t ht
 obtain ⟨l', _, hs, hc⟩ := toks_mem _ _ _ t ht
 unfold RgTame
 rw [hs, hc]
 exact tok_rg l'
mutual
def PT.rg3 : PT → Prop
 | .num _ _ => True
 | .name _ _ => True
 | .node _ _ _ rg kids => (0 ≤ valueL rg ∧ valueL rg ≤ 999) ∧ rg3L kids
def rg3L : List PT → Prop
 | [] => True
 | t :: r => t.rg3 ∧ rg3L r
end
mutual
theorem PE.rg3 {placed : Bool} : ∀ {l : List Tk} {e : PT} {r : List Tk}, PE placed l e r → (∀ t ∈ l, RgTame t) → e.rg3 ∧ ∀ t ∈ r, RgTame t
 | _, _, _, .num _, ha => ⟨by simp [PT.rg3], fun x hx => ha x (by simp [hx])⟩
 | _, _, _, .name _, ha => ⟨by simp [PT.rg3], fun x hx => ha x (by simp [hx])⟩
 | _, _, _, .node _ _ _ h4, ha => by
  have h := PW.rg3 h4 (fun x hx => ha x (by simp [hx]))
  exact ⟨by simp only [PT.rg3]; exact ⟨h.1, h.2.1⟩, h.2.2⟩
theorem PW.rg3 {placed : Bool} : ∀ {ws : List Wt} {l : List Tk} {nm rg : List UInt8} {kids : List PT} {r : List Tk}, PW placed ws l nm rg kids r → (∀ t ∈ l, RgTame t) → (0 ≤ valueL rg ∧ valueL rg ≤ 999) ∧ rg3L kids ∧ ∀ t ∈ r, RgTame t
 | _, _, _, _, _, _, .nil, ha => ⟨by decide, by simp [rg3L], ha⟩
 | _, _, _, _, _, _, .close _ h1, ha => PW.rg3 h1 (fun x hx => ha x (by simp [hx]))
 | _, _, _, _, _, _, .name _ h1, ha => PW.rg3 h1 (fun x hx => ha x (by simp [hx]))
 | _, _, _, _, _, _, .region (t := t) h h1, ha => by
  have h' := PW.rg3 h1 (fun x hx => ha x (by simp [hx]))
  exact ⟨ha t (by simp) h, h'.2⟩
 | _, _, _, _, _, _, .e h0 h1, ha => by
  have a := PE.rg3 h0 ha
  have b := PW.rg3 h1 a.2
  exact ⟨b.1, by simp only [rg3L]; exact ⟨a.1, b.2.1⟩, b.2.2⟩
end
end Go.Proofs.YtpicaknklgccoaaGreatDoor
namespace Go.Proofs.YtpicaknklgccoaaGreatDoor
theorem fk_let : formK .let_ = 3 := by decide
theorem fk_pair : formK .pair = 4 := by decide
theorem fk_fst : formK .fst = 5 := by decide
theorem fk_snd : formK .snd = 6 := by decide
theorem fk_if : formK .if_ = 7 := by decide
theorem fk_loop : formK .loop = 11 := by decide
def Tk.z (t : Tk) : Tk := { t with at_ := 0 }
def sk (l : List UInt8) : List Tk := (tokens l).map Tk.z
theorem toks_z : ∀ (f p q : Nat) (l : List UInt8), (toks f p l).map Tk.z = (toks f q l).map Tk.z
 | 0, _, _, _ => rfl
 | _ + 1, _, _, [] => rfl
 | f + 1, p, q, c :: r => by
  simp only [toks]
  split
  ·exact toks_z f _ _ _
  ·simp only [List.map_cons]; rw [toks_z f _ (q + (tokenOf (c :: r)).1)]; rfl
theorem toks_sk (f p : Nat) (l : List UInt8) (h : l.length ≤ f) : (toks f p l).map Tk.z = sk l := by
 unfold sk tokens; rw [toks_fuel f l.length p l h (Nat.le_refl _)]; exact toks_z _ _ _ _
theorem sk_nil : sk [] = [] := rfl
theorem sk_blank (c : UInt8) (r : List UInt8) (h : blankB c = true) : sk (c :: r) = sk r := by
 show (toks (r.length + 1) 0 (c :: r)).map Tk.z = _
 rw [toks_blank _ _ _ _ h]; exact toks_sk _ _ _ (Nat.le_refl _)
theorem sk_tok (a : UInt8) (t r : List UInt8) (c : Cl) (ha : blankB a = false) (h : tokenOf (a :: (t ++ r)) = (t.length + 1, c)) : sk (a :: (t ++ r)) = ⟨a :: t, 0, c⟩ :: sk r := by
 show (toks ((t ++ r).length + 1) 0 (a :: (t ++ r))).map Tk.z = _
 rw [toks_tok _ _ _ _ ha, h]
 simp only [List.map_cons, List.take_succ_cons, List.drop_succ_cons, List.take_left, List.drop_left]
 rw [toks_sk _ _ _ (by simp)]; rfl
theorem run_app (lo hi : Int) : ∀ (w r : List UInt8), (∀ c ∈ w, inB lo hi c = true) → (∀ c ∈ r.head?, inB lo hi c = false) → run lo hi (w ++ r) = w.length
 | [], [], _, _ => rfl
 | [], c :: r, _, h => by simp [run, h c (by simp)]
 | a :: w, r, h, h' => by
  simp only [List.cons_append, run, h a (by simp), if_true, List.length_cons]
  rw [run_app lo hi w r (fun c hc => h c (by simp [hc])) h']
def Stop (r : List UInt8) : Prop := ∀ c ∈ r.head?, inB 97 122 c = false ∧ inB 48 57 c = false
theorem stop_nil : Stop [] := by intro c h; simp at h
theorem stop_blank (r : List UInt8) : Stop (32 :: r) := by intro c h; simp at h; subst h; decide
theorem stop_close (r : List UInt8) : Stop (41 :: r) := by intro c h; simp at h; subst h; decide
def GoodN (s : List UInt8) : Prop := s ≠ [] ∧ (∀ c ∈ s, inB 97 122 c = true) ∧ s.length ≤ 8 ∧ kwOf s = none
def GoodD (s : List UInt8) (m : Nat) : Prop := (∀ c ∈ s, inB 48 57 c = true) ∧ numeralB s m = true
theorem inB_of {lo hi : Int} {c : UInt8} (h : inB lo hi c = true) : lo ≤ (c.toNat : Int) ∧ (c.toNat : Int) ≤ hi := by
 unfold inB at h; simp only [Bool.and_eq_true, decide_eq_true_eq] at h; exact h
theorem inB_not {lo hi : Int} {c : UInt8} (h : (c.toNat : Int) < lo ∨ hi < (c.toNat : Int)) : inB lo hi c = false := by
 cases hb : inB lo hi c with
 | false => rfl
 | true => have := inB_of hb; omega
theorem blank_not {c : UInt8} (h : 33 ≤ c.toNat) : blankB c = false := by
 unfold blankB
 rw [Bool.or_eq_false_iff]
 constructor <;> (rw [beq_eq_false_iff_ne]; rintro rfl; exact absurd h (by decide))
theorem sk_word (w r : List UInt8) (hne : w ≠ []) (hw : ∀ c ∈ w, inB 97 122 c = true) (hr : Stop r) : sk (w ++ r) = ⟨w, 0, wordCl w w.length⟩ :: sk r := by
 have hrun := run_app 97 122 w r hw (fun c hc => (hr c hc).1)
 cases w with
 | nil => exact absurd rfl hne
 | cons a t =>
  have ha := inB_of (hw a (by simp))
  refine sk_tok a t r _ (blank_not (by omega)) ?_
  have hrun' : run 97 122 (a :: (t ++ r)) = t.length + 1 := hrun
  unfold tokenOf
  rw [if_pos (by omega), hrun']
  simp
theorem sk_kw (k : Kw) (r : List UInt8) (hr : Stop r) : sk (k.bytes ++ r) = ⟨k.bytes, 0, .kw k⟩ :: sk r := by
 rw [sk_word k.bytes r (by cases k <;> decide) (by cases k <;> decide) hr]
 unfold wordCl; rw [kwOf_bytes]
theorem sk_name (s r : List UInt8) (h : GoodN s) (hr : Stop r) : sk (s ++ r) = ⟨s, 0, .nam⟩ :: sk r := by
 rw [sk_word s r h.1 h.2.1 hr]
 unfold wordCl; rw [h.2.2.2]; simp only; rw [if_pos h.2.2.1]
theorem numeral_pos {s : List UInt8} {m : Nat} (h : numeralB s m = true) : s ≠ [] := by
 rintro rfl; simp [numeralB] at h
theorem sk_num (s r : List UInt8) (h : GoodD s 4) (hr : Stop r) : sk (s ++ r) = ⟨s, 0, .num⟩ :: sk r := by
 have hrun := run_app 48 57 s r h.1 (fun c hc => (hr c hc).2)
 have hne := numeral_pos h.2
 cases s with
 | nil => exact absurd rfl hne
 | cons a t =>
  have ha := inB_of (h.1 a (by simp))
  refine sk_tok a t r _ (blank_not (by omega)) ?_
  have hrun' : run 48 57 (a :: (t ++ r)) = t.length + 1 := hrun
  have h0 : run 97 122 (a :: (t ++ r)) = 0 := by simp only [run]; rw [inB_not (by omega)]; simp
  unfold tokenOf
  rw [if_neg (by omega), if_pos (by omega), hrun']
  simp only [List.take_succ_cons, List.take_left]
  rw [if_pos h.2]
theorem sk_reg (d r : List UInt8) (h : GoodD d 3) (hr : Stop r) : sk (35 :: (d ++ r)) = ⟨35 :: d, 0, .reg⟩ :: sk r := by
 have hrun := run_app 48 57 d r h.1 (fun c hc => (hr c hc).2)
 refine sk_tok 35 d r _ (by decide) ?_
 unfold tokenOf
 rw [if_neg (by simp [run, inB]), if_neg (by simp [run, inB])]
 simp only [if_true]
 rw [hrun, List.take_left, if_pos h.2]
theorem sk_opn (r : List UInt8) : sk (40 :: r) = ⟨[40], 0, .opn⟩ :: sk r := by
 refine sk_tok 40 [] r _ (by decide) ?_
 unfold tokenOf
 rw [if_neg (by simp [run, inB]), if_neg (by simp [run, inB])]
 simp
theorem sk_cls (r : List UInt8) : sk (41 :: r) = ⟨[41], 0, .cls⟩ :: sk r := by
 refine sk_tok 41 [] r _ (by decide) ?_
 unfold tokenOf
 rw [if_neg (by simp [run, inB]), if_neg (by simp [run, inB])]
 simp
theorem sk_sp (r : List UInt8) : sk (32 :: r) = sk r := sk_blank 32 r (by decide)
mutual
def PT.ok (placed : Bool) : PT → Prop
 | .num _ s => GoodD s 4
 | .name _ s => GoodN s
 | .node _ k nm rg kids => wantsK k placed ≠ [] ∧ kids.length = arity k ∧ (if k = .let_ ∨ k = .loop then GoodN nm else nm = []) ∧ (if placed = true ∧ (k = .pair ∨ k = .new) then ∃ d, rg = 35 :: d ∧ GoodD d 3 else rg = []) ∧ okL placed kids
def okL (placed : Bool) : List PT → Prop
 | [] => True
 | t :: r => t.ok placed ∧ okL placed r
end
mutual
def PT.np : PT → PT
 | .num _ s => .num 0 s
 | .name _ s => .name 0 s
 | .node _ k nm rg kids => .node 0 k nm rg (npL kids)
def npL : List PT → List PT
 | [] => []
 | t :: r => t.np :: npL r
end
def regT (rg : List UInt8) : List UInt8 := if rg = [] then [] else 32 :: rg
mutual
def PT.tidy : PT → List UInt8
 | .num _ s => s
 | .name _ s => s
 | .node _ k nm rg kids => 40 :: (k.bytes ++ (regT rg ++ (joinT k nm 0 (tidyL kids) ++ [41])))
def tidyL : List PT → List (List UInt8)
 | [] => []
 | t :: r => t.tidy :: tidyL r
end
def pieceK (k : Kw) (nm : List UInt8) (i : Nat) (x : List Tk) : List Tk := (if (k = .let_ ∧ i = 0) ∨ (k = .loop ∧ i = 1) then [⟨nm, 0, .nam⟩] else []) ++ x
def joinK (k : Kw) (nm : List UInt8) : Nat → List (List Tk) → List Tk
 | _, [] => []
 | i, x :: r => pieceK k nm i x ++ joinK k nm (i + 1) r
def regK (rg : List UInt8) : List Tk := if rg = [] then [] else [⟨rg, 0, .reg⟩]
mutual
def PT.tkz : PT → List Tk
 | .num _ s => [⟨s, 0, .num⟩]
 | .name _ s => [⟨s, 0, .nam⟩]
 | .node _ k nm rg kids => ⟨[40], 0, .opn⟩ :: ⟨k.bytes, 0, .kw k⟩ :: (regK rg ++ (joinK k nm 0 (tkzL kids) ++ [⟨[41], 0, .cls⟩]))
def tkzL : List PT → List (List Tk)
 | [] => []
 | t :: r => t.tkz :: tkzL r
end
theorem stop_join (k : Kw) (nm : List UInt8) (i : Nat) (l : List (List UInt8)) (r : List UInt8) : Stop (joinT k nm i l ++ (41 :: r)) := by
 cases l with
 | nil => exact stop_close r
 | cons x l =>
  unfold joinT pieceT
  split
  ·exact stop_blank _
  ·exact stop_blank _
mutual
theorem tidy_sk {placed : Bool} : ∀ (e : PT), e.ok placed → ∀ r, Stop r → sk (e.tidy ++ r) = e.tkz ++ sk r
 | .num _ s, h, r, hr => sk_num s r (by simpa only [PT.ok] using h) hr
 | .name _ s, h, r, hr => sk_name s r (by simpa only [PT.ok] using h) hr
 | .node _ k nm rg kids, h, r, hr => by
  simp only [PT.ok] at h
  obtain ⟨_, _, hn, hg, hk⟩ := h
  have hj := tidyL_sk (placed := placed) kids hk k nm (fun hx => by rw [if_pos hx] at hn; exact hn) 0 r
  simp only [PT.tidy, PT.tkz, List.cons_append, List.append_assoc, List.nil_append]
  rw [sk_opn, sk_kw, List.cons.injEq, List.cons.injEq]
  ·refine ⟨rfl, rfl, ?_⟩
   unfold regT regK
   split
   ·exact hj
   ·rename_i e
    split at hg
    ·obtain ⟨d, rfl, hd⟩ := hg
     simp only [List.cons_append]
     rw [sk_sp, sk_reg d _ hd (stop_join _ _ _ _ _), hj]; rfl
    ·exact absurd hg e
  ·unfold regT
   split
   ·exact stop_join _ _ _ _ _
   ·exact stop_blank _
theorem tidyL_sk {placed : Bool} : ∀ (kids : List PT), okL placed kids → ∀ (k : Kw) (nm : List UInt8), ((k = .let_ ∨ k = .loop) → GoodN nm) → ∀ (i : Nat) (r : List UInt8), sk (joinT k nm i (tidyL kids) ++ (41 :: r)) = joinK k nm i (tkzL kids) ++ (⟨[41], 0, .cls⟩ :: sk r)
 | [], _, k, nm, _, i, r => by simp only [tidyL, tkzL, joinT, joinK, List.nil_append]; exact sk_cls r
 | t :: ts, h, k, nm, hn, i, r => by
  simp only [okL] at h
  have ih := tidyL_sk ts h.2 k nm hn (i + 1) r
  have iht := tidy_sk t h.1 (joinT k nm (i + 1) (tidyL ts) ++ (41 :: r)) (stop_join _ _ _ _ _)
  simp only [tidyL, tkzL, joinT, joinK, pieceT, pieceK, List.append_assoc]
  split
  ·rename_i hc
   have hg : GoodN nm := hn (hc.elim (fun h => Or.inl h.1) (fun h => Or.inr h.1))
   simp only [List.cons_append, List.nil_append]
   rw [sk_sp, sk_name nm _ hg (stop_blank _), sk_sp, iht, ih]
  ·simp only [List.cons_append, List.nil_append]
   rw [sk_sp, iht, ih]
end
mutual
theorem tkz_PE {placed : Bool} : ∀ (e : PT), e.ok placed → ∀ r, PE placed (e.tkz ++ r) e.np r
 | .num _ s, _, r => by simp only [PT.tkz, PT.np]; exact .num (t := ⟨s, 0, .num⟩) rfl
 | .name _ s, _, r => by simp only [PT.tkz, PT.np]; exact .name (t := ⟨s, 0, .nam⟩) rfl
 | .node _ k nm rg kids, h, r => by
  simp only [PT.ok] at h
  obtain ⟨hw, hl, hn, hg, hk⟩ := h
  have hks := okL_PE (placed := placed) kids hk
  have fin0 : ∀ (R : List Tk) (nm' rg' : List UInt8) (ks : List PT), PW placed (wantsK k placed) R nm' rg' ks r → R = regK rg ++ (joinK k nm 0 (tkzL kids) ++ [⟨[41], 0, .cls⟩]) ++ r → nm' = nm → rg' = rg → ks = npL kids → PE placed ((PT.node 0 k nm rg kids).tkz ++ r) (PT.node 0 k nm rg kids).np r := by
   rintro R nm' rg' ks hp rfl rfl rfl rfl
   simp only [PT.tkz, PT.np, List.cons_append]
   exact .node (t := ⟨[40], 0, .opn⟩) (u := ⟨k.bytes, 0, .kw k⟩) rfl rfl hw hp
  cases k with
  | let_ =>
   match kids, hl, hks, fin0 with
   | [a, b], _, hks, fin0 =>
    simp only [wantsK] at fin0
    simp only [true_or, if_true] at hn
    rw [if_neg (by simp)] at hg
    subst hg
    exact fin0 _ _ _ _ (.name (t := ⟨nm, 0, .nam⟩) rfl (.e (hks a (by simp) _) (.e (hks b (by simp) _) (.close (t := ⟨[41], 0, .cls⟩) rfl .nil)))) (by simp [regK, tkzL, joinK, pieceK]) rfl rfl rfl
  | loop =>
   match kids, hl, hks, fin0 with
   | [a, b, c], _, hks, fin0 =>
    simp only [wantsK] at fin0
    rw [if_neg (by simp)] at hg
    subst hg
    exact fin0 _ _ _ _ (.e (hks a (by simp) _) (.name (t := ⟨nm, 0, .nam⟩) rfl (.e (hks b (by simp) _) (.e (hks c (by simp) _) (.close (t := ⟨[41], 0, .cls⟩) rfl .nil))))) (by simp [regK, tkzL, joinK, pieceK]) rfl rfl rfl
  | if_ =>
   match kids, hl, hks, fin0 with
   | [a, b, c], _, hks, fin0 =>
    simp only [wantsK] at fin0
    rw [if_neg (by simp)] at hg
    rw [if_neg (by decide)] at hn
    subst hg; subst hn
    exact fin0 _ _ _ _ (.e (hks a (by simp) _) (.e (hks b (by simp) _) (.e (hks c (by simp) _) (.close (t := ⟨[41], 0, .cls⟩) rfl .nil)))) (by simp [regK, tkzL, joinK, pieceK]) rfl rfl rfl
  | fst =>
   match kids, hl, hks, fin0 with
   | [a], _, hks, fin0 =>
    simp only [wantsK] at fin0
    rw [if_neg (by simp)] at hg
    rw [if_neg (by decide)] at hn
    subst hg; subst hn
    exact fin0 _ _ _ _ (.e (hks a (by simp) _) (.close (t := ⟨[41], 0, .cls⟩) rfl .nil)) (by simp [regK, tkzL, joinK, pieceK]) rfl rfl rfl
  | snd =>
   match kids, hl, hks, fin0 with
   | [a], _, hks, fin0 =>
    simp only [wantsK] at fin0
    rw [if_neg (by simp)] at hg
    rw [if_neg (by decide)] at hn
    subst hg; subst hn
    exact fin0 _ _ _ _ (.e (hks a (by simp) _) (.close (t := ⟨[41], 0, .cls⟩) rfl .nil)) (by simp [regK, tkzL, joinK, pieceK]) rfl rfl rfl
  | add =>
   match kids, hl, hks, fin0 with
   | [a, b], _, hks, fin0 =>
    simp only [wantsK] at fin0
    rw [if_neg (by simp)] at hg
    rw [if_neg (by decide)] at hn
    subst hg; subst hn
    exact fin0 _ _ _ _ (.e (hks a (by simp) _) (.e (hks b (by simp) _) (.close (t := ⟨[41], 0, .cls⟩) rfl .nil))) (by simp [regK, tkzL, joinK, pieceK]) rfl rfl rfl
  | sub =>
   match kids, hl, hks, fin0 with
   | [a, b], _, hks, fin0 =>
    simp only [wantsK] at fin0
    rw [if_neg (by simp)] at hg
    rw [if_neg (by decide)] at hn
    subst hg; subst hn
    exact fin0 _ _ _ _ (.e (hks a (by simp) _) (.e (hks b (by simp) _) (.close (t := ⟨[41], 0, .cls⟩) rfl .nil))) (by simp [regK, tkzL, joinK, pieceK]) rfl rfl rfl
  | less =>
   match kids, hl, hks, fin0 with
   | [a, b], _, hks, fin0 =>
    simp only [wantsK] at fin0
    rw [if_neg (by simp)] at hg
    rw [if_neg (by decide)] at hn
    subst hg; subst hn
    exact fin0 _ _ _ _ (.e (hks a (by simp) _) (.e (hks b (by simp) _) (.close (t := ⟨[41], 0, .cls⟩) rfl .nil))) (by simp [regK, tkzL, joinK, pieceK]) rfl rfl rfl
  | pair =>
   match kids, hl, hks, fin0 with
   | [a, b], _, hks, fin0 =>
    rw [if_neg (by decide)] at hn
    subst hn
    cases placed with
    | false =>
     simp only [wantsK] at fin0
     rw [if_neg (by simp)] at hg
     subst hg
     exact fin0 _ _ _ _ (.e (hks a (by simp) _) (.e (hks b (by simp) _) (.close (t := ⟨[41], 0, .cls⟩) rfl .nil))) (by simp [regK, tkzL, joinK, pieceK]) rfl rfl rfl
    | true =>
     simp only [wantsK] at fin0
     rw [if_pos (by simp)] at hg
     obtain ⟨d, rfl, hd⟩ := hg
     exact fin0 _ _ _ _ (.region (t := ⟨35 :: d, 0, .reg⟩) rfl (.e (hks a (by simp) _) (.e (hks b (by simp) _) (.close (t := ⟨[41], 0, .cls⟩) rfl .nil)))) (by simp [regK, tkzL, joinK, pieceK]) rfl rfl rfl
  | new =>
   match kids, hl, hks, fin0 with
   | [a], _, hks, fin0 =>
    rw [if_neg (by decide)] at hn
    subst hn
    cases placed with
    | false => exact absurd rfl hw
    | true =>
     simp only [wantsK] at fin0
     rw [if_pos (by simp)] at hg
     obtain ⟨d, rfl, hd⟩ := hg
     exact fin0 _ _ _ _ (.region (t := ⟨35 :: d, 0, .reg⟩) rfl (.e (hks a (by simp) _) (.close (t := ⟨[41], 0, .cls⟩) rfl .nil))) (by simp [regK, tkzL, joinK, pieceK]) rfl rfl rfl
theorem okL_PE {placed : Bool} : ∀ (kids : List PT), okL placed kids → ∀ x ∈ kids, ∀ r, PE placed (x.tkz ++ r) x.np r
 | [], _, x, hx, _ => by simp at hx
 | t :: ts, h, x, hx, r => by
  simp only [okL] at h
  rcases List.mem_cons.1 hx with hx | hx
  ·rw [hx]; exact tkz_PE t h.1 r
  ·exact okL_PE ts h.2 x hx r
end
theorem z_cons {l : List Tk} {t : Tk} {r : List Tk} (h : l.map Tk.z = t :: r) : ∃ t2 r2, l = t2 :: r2 ∧ t2.c = t.c ∧ t2.s = t.s ∧ r2.map Tk.z = r := by
 cases l with
 | nil => simp at h
 | cons a l =>
  simp only [List.map_cons, List.cons.injEq] at h
  exact ⟨a, l, rfl, by rw [← h.1]; rfl, by rw [← h.1]; rfl, h.2⟩
mutual
theorem PE.unz {placed : Bool} : ∀ {l : List Tk} {e : PT} {r : List Tk}, PE placed l e r → ∀ l2, l2.map Tk.z = l → ∃ e2 r2, PE placed l2 e2 r2 ∧ e2.np = e.np ∧ r2.map Tk.z = r
 | _, _, _, .num h, l2, h2 => by
  obtain ⟨t2, r2, rfl, hc, hs, hr⟩ := z_cons h2
  exact ⟨_, r2, .num (hc.trans h), by simp only [PT.np, hs], hr⟩
 | _, _, _, .name h, l2, h2 => by
  obtain ⟨t2, r2, rfl, hc, hs, hr⟩ := z_cons h2
  exact ⟨_, r2, .name (hc.trans h), by simp only [PT.np, hs], hr⟩
 | _, _, _, .node h1 h3 h4 h5, l2, h2 => by
  obtain ⟨t2, r2, rfl, hc, _, hr⟩ := z_cons h2
  obtain ⟨u2, r3, rfl, hc3, _, hr3⟩ := z_cons hr
  obtain ⟨ks, r4, hp, hks, hr4⟩ := PW.unz h5 r3 hr3
  exact ⟨_, r4, .node (hc.trans h1) (hc3.trans h3) h4 hp, by simp only [PT.np, hks], hr4⟩
theorem PW.unz {placed : Bool} : ∀ {ws : List Wt} {l : List Tk} {nm rg : List UInt8} {kids : List PT} {r : List Tk}, PW placed ws l nm rg kids r → ∀ l2, l2.map Tk.z = l → ∃ kids2 r2, PW placed ws l2 nm rg kids2 r2 ∧ npL kids2 = npL kids ∧ r2.map Tk.z = r
 | _, _, _, _, _, _, .nil, l2, h2 => ⟨[], l2, .nil, rfl, h2⟩
 | _, _, _, _, _, _, .close h h1, l2, h2 => by
  obtain ⟨t2, r2, rfl, hc, _, hr⟩ := z_cons h2
  obtain ⟨ks, r4, hp, hks, hr4⟩ := PW.unz h1 r2 hr
  exact ⟨ks, r4, .close (hc.trans h) hp, hks, hr4⟩
 | _, _, _, _, _, _, .name h h1, l2, h2 => by
  obtain ⟨t2, r2, rfl, hc, hs, hr⟩ := z_cons h2
  obtain ⟨ks, r4, hp, hks, hr4⟩ := PW.unz h1 r2 hr
  exact ⟨ks, r4, by rw [← hs]; exact .name (hc.trans h) hp, hks, hr4⟩
 | _, _, _, _, _, _, .region h h1, l2, h2 => by
  obtain ⟨t2, r2, rfl, hc, hs, hr⟩ := z_cons h2
  obtain ⟨ks, r4, hp, hks, hr4⟩ := PW.unz h1 r2 hr
  exact ⟨ks, r4, by rw [← hs]; exact .region (hc.trans h) hp, hks, hr4⟩
 | _, _, _, _, _, _, .e h h1, l2, h2 => by
  obtain ⟨e2, r2, hp, he, hr⟩ := PE.unz h l2 h2
  obtain ⟨ks, r4, hp4, hks, hr4⟩ := PW.unz h1 r2 hr
  exact ⟨_, r4, .e hp hp4, by simp only [npL, he, hks], hr4⟩
end
mutual
theorem np_np : ∀ e : PT, e.np.np = e.np
 | .num _ _ => rfl
 | .name _ _ => rfl
 | .node _ _ _ _ kids => by simp only [PT.np, npL_np kids]
theorem npL_np : ∀ l : List PT, npL (npL l) = npL l
 | [] => rfl
 | t :: r => by simp only [npL, np_np t, npL_np r]
end
theorem tidy_PE {placed : Bool} (e : PT) (h : e.ok placed) : ∃ e2, PE placed (tokens e.tidy) e2 [] ∧ e2.np = e.np := by
 have hs := tidy_sk e h [] stop_nil
 rw [List.append_nil, sk_nil] at hs
 obtain ⟨e2, r2, hp, he, hr⟩ := (tkz_PE e h []).unz (tokens e.tidy) hs
 have : r2 = [] := by simpa using hr
 subst this
 exact ⟨e2, hp, he.trans (np_np e)⟩
end Go.Proofs.YtpicaknklgccoaaGreatDoor
