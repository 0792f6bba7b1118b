import Derived.Test.YtglkpkmdoohdcaaDoorX2
import Derived.Test.YtglkpkmdoohdcaaDoorX1
import Derived.Test.YtglkpkmdoohdcaaDoorRq
import Derived.BigRegion
import Derived.BigQuiet
import Derived.Deep.QuietTactic
import Derived.Deep.CutRange
namespace Go.Proofs.YtglkpkmdoohdcaaDoor
open Go.RowKit

def psCells (s : ByteArray) (placed : Bool) (fr : Nat) (fl : Bool) (a : Nat) (sv nv ov : Value) : Array Value := #[.string s, .bool placed, .int .i64 fr, .bool fl, .int .i64 a, sv, nv, ov]
def nrL (n : NR) : List Value := [.int .i64 n.form, .int .i64 n.at_, .int .i64 n.beh, .int .i64 n.num, .string (bs n.word), .int .i64 n.region, .int .i64 n.source, .int .i64 n.p0, .int .i64 n.p1, .int .i64 n.p2]
def scL (x : List UInt8 × Int) : List Value := [.string (bs x.1), .int .i64 x.2]
def intV (i : Int) : Value := .int .i64 i

/-- how a reader lies in memory -/
structure PIn (s : ByteArray) (placed : Bool) (pb : Nat) (w : World) (sv nv ov : Value) (st : PS) : Prop where
  y : ∃ fr, fr ≤ s.size ∧ tksAt s.data.toList fr = st.l ∧ w.heap[pb]? = some (.cells (psCells s placed fr st.fl.isSome (st.fl.getD 0) sv nv ov) 120 (0, 0))
  sc : w.ownsRow 0 193 2 sv st.scope.length (st.scope.flatMap scL)
  nd : w.ownsRow 0 130 10 nv st.nodes.length (st.nodes.flatMap nrL)
  op : w.ownsRow 0 3 1 ov st.opened.length (st.opened.map intV)
  sy : sv.ownBlock ≠ some pb
  ny : nv.ownBlock ≠ some pb
  oy : ov.ownBlock ≠ some pb
  sn : apart sv nv
  so : apart sv ov
  no : apart nv ov

/-- what a call on a reader leaves alone; where its rows lie now -/
structure PFr (pb nb : Nat) (w w' : World) (sv nv ov sv' nv' ov' : Value) : Prop where
  os : w'.os = w.os
  tape : w'.tape = w.tape
  output : w'.output = w.output
  size : w.heap.size ≤ w'.heap.size
  blk : ∀ k, k < w.heap.size → k ≠ pb → k ≠ nb → sv.ownBlock ≠ some k → nv.ownBlock ≠ some k → ov.ownBlock ≠ some k → w'.heap[k]? = w.heap[k]?
  s : ∀ g, sv'.ownBlock = some g → sv.ownBlock = some g ∨ w.heap.size ≤ g
  n : ∀ g, nv'.ownBlock = some g → nv.ownBlock = some g ∨ w.heap.size ≤ g
  o : ∀ g, ov'.ownBlock = some g → ov.ownBlock = some g ∨ w.heap.size ≤ g
theorem PFr.refl (pb nb : Nat) (w : World) (sv nv ov : Value) : PFr pb nb w w sv nv ov sv nv ov := ⟨rfl, rfl, rfl, Nat.le_refl _, fun _ _ _ _ _ _ _ => rfl, fun _ h => Or.inl h, fun _ h => Or.inl h, fun _ h => Or.inl h⟩
theorem PFr.trans {pb nb : Nat} {w w1 w2 : World} {sv nv ov sv1 nv1 ov1 sv2 nv2 ov2 : Value} (h : PFr pb nb w w1 sv nv ov sv1 nv1 ov1) (h' : PFr pb nb w1 w2 sv1 nv1 ov1 sv2 nv2 ov2) : PFr pb nb w w2 sv nv ov sv2 nv2 ov2 := by
  refine ⟨h'.os.trans h.os, h'.tape.trans h.tape, h'.output.trans h.output, Nat.le_trans h.size h'.size, ?_, ?_, ?_, ?_⟩
  · intro k hk hp hnb hs hn ho
    rw [h'.blk k (Nat.lt_of_lt_of_le hk h.size) hp hnb (fun e => by rcases h.s k e with e | e; exact hs e; omega) (fun e => by rcases h.n k e with e | e; exact hn e; omega) (fun e => by rcases h.o k e with e | e; exact ho e; omega)]
    exact h.blk k hk hp hnb hs hn ho
  · intro g hg
    rcases h'.s g hg with e | e
    · exact h.s g e
    · exact Or.inr (Nat.le_trans h.size e)
  · intro g hg
    rcases h'.n g hg with e | e
    · exact h.n g e
    · exact Or.inr (Nat.le_trans h.size e)
  · intro g hg
    rcases h'.o g hg with e | e
    · exact h.o g e
    · exact Or.inr (Nat.le_trans h.size e)
theorem PFr.below {w w' : World} (pb nb : Nat) (sv nv ov : Value) (h : Below w.heap.size w w') : PFr pb nb w w' sv nv ov sv nv ov := ⟨h.os, h.tape, h.output, h.size, fun k hk _ _ _ _ _ => h.block k hk, fun _ h => Or.inl h, fun _ h => Or.inl h, fun _ h => Or.inl h⟩
/-- without the node's own block -/
theorem PFr.nb {pb nb : Nat} {w w' : World} {sv nv ov sv' nv' ov' : Value} (h : PFr pb pb w w' sv nv ov sv' nv' ov') : PFr pb nb w w' sv nv ov sv' nv' ov' := ⟨h.os, h.tape, h.output, h.size, fun k hk hp _ hs hn ho => h.blk k hk hp hp hs hn ho, h.s, h.n, h.o⟩

/-- the reader's rows stay, its block is as told -/
theorem PIn.move {s : ByteArray} {placed : Bool} {pb : Nat} {w w' : World} {sv nv ov : Value} {st : PS} (h : PIn s placed pb w sv nv ov st) (l : List Tk) (fl : Option Nat)
    (hs : ∀ k, sv.ownBlock = some k → w'.heap[k]? = w.heap[k]?) (hn : ∀ k, nv.ownBlock = some k → w'.heap[k]? = w.heap[k]?) (ho : ∀ k, ov.ownBlock = some k → w'.heap[k]? = w.heap[k]?)
    (hy : ∃ fr, fr ≤ s.size ∧ tksAt s.data.toList fr = l ∧ w'.heap[pb]? = some (.cells (psCells s placed fr fl.isSome (fl.getD 0) sv nv ov) 120 (0, 0))) :
    PIn s placed pb w' sv nv ov { st with l := l, fl := fl } :=
  ⟨hy, owns_blk h.sc hs, owns_blk h.nd hn, owns_blk h.op ho, h.sy, h.ny, h.oy, h.sn, h.so, h.no⟩
theorem PIn.slt {s : ByteArray} {placed : Bool} {pb : Nat} {w : World} {sv nv ov : Value} {st : PS} (h : PIn s placed pb w sv nv ov st) : (∀ k, sv.ownBlock = some k → k < w.heap.size) ∧ (∀ k, nv.ownBlock = some k → k < w.heap.size) ∧ (∀ k, ov.ownBlock = some k → k < w.heap.size) ∧ pb < w.heap.size :=
  ⟨fun k hk => (h.sc.lt k hk).2, fun k hk => (h.nd.lt k hk).2, fun k hk => (h.op.lt k hk).2, by obtain ⟨fr, _, _, hy⟩ := h.y; exact blk_lt hy⟩
theorem PIn.below {s : ByteArray} {placed : Bool} {pb : Nat} {w w' : World} {sv nv ov : Value} {st : PS} (h : PIn s placed pb w sv nv ov st) (hb : Below w.heap.size w w') : PIn s placed pb w' sv nv ov st := by
  obtain ⟨h1, h2, h3, h4⟩ := h.slt
  obtain ⟨fr, hf1, hf2, hf3⟩ := h.y
  exact PIn.move h st.l st.fl (fun k hk => hb.block k (h1 k hk)) (fun k hk => hb.block k (h2 k hk)) (fun k hk => hb.block k (h3 k hk)) ⟨fr, hf1, hf2, by rw [hb.block pb h4]; exact hf3⟩

theorem alloc2_kept {w w2 : World} {A : Obj} {cs : Array Value} {t : TypeId} (hb : Below ((w.alloc A).alloc (.cells cs t)).drew.heap.size ((w.alloc A).alloc (.cells cs t)).drew w2) : w2.heap[w.heap.size + 1]? = some (.cells cs t (0, 0)) := by
  rw [hb.block (w.heap.size + 1) (by show w.heap.size + 1 < ((w.alloc A).alloc (.cells cs t)).heap.size; simp)]
  have h := blk_new (w.alloc A) (.cells cs t)
  have e : (w.alloc A).heap.size = w.heap.size + 1 := by simp
  rw [e] at h
  exact h
theorem tok_cells {w : World} {g : Nat} {t : TypeId} {a b c d e : Value} (h : w.heap[g]? = some (.cells #[a, b, c, d, e] t (0, 0))) : w.cell? ⟨g, 0, none⟩ = some a ∧ w.cell? ⟨g, 1, none⟩ = some b ∧ w.cell? ⟨g, 2, none⟩ = some c ∧ w.cell? ⟨g, 3, none⟩ = some d ∧ w.cell? ⟨g, 4, none⟩ = some e :=
  ⟨by rw [blk_cell h]; rfl, by rw [blk_cell h]; rfl, by rw [blk_cell h]; rfl, by rw [blk_cell h]; rfl, by rw [blk_cell h]; rfl⟩

theorem next_beh (s : ByteArray) (a : Nat) (ha : a ≤ s.size) : tksAt s.data.toList (tk1 s.size (tksAt s.data.toList a)).beh = (tksAt s.data.toList a).tail ∧ (tk1 s.size (tksAt s.data.toList a)).beh ≤ s.size := by
  obtain ⟨h1, h2⟩ := tks_skip s s.size a (by omega)
  have hnl := nbl_le (s.data.toList.drop a)
  rw [List.length_drop, size_list] at hnl
  rw [← h1]
  obtain ⟨p, hp⟩ : ∃ p, p = a + nbl (s.data.toList.drop a) := ⟨_, rfl⟩
  rw [← hp]
  have h3 : ∀ h : p < s.size, blankB s[p] = false := by subst hp; exact h2
  by_cases hlt : p < s.size
  · have ht := tks_tok s p hlt (h3 hlt)
    rw [ht]
    have hlen := tkAt_len s p hlt
    have hle := tokenOf_le (s.data.toList.drop p) (by rw [drop_cons s p hlt]; simp)
    rw [List.length_drop, size_list] at hle
    have hb : (tk1 s.size (tkAt s p :: tksAt s.data.toList (p + (tokenOf (s.data.toList.drop p)).1))).beh = p + (tokenOf (s.data.toList.drop p)).1 := by
      show (tkAt s p).at_ + (tkAt s p).s.length = _
      rw [hlen]; rfl
    rw [hb]
    exact ⟨rfl, by omega⟩
  · have ht := tks_end s p (by omega)
    rw [ht]
    exact ⟨tks_end s s.size (Nat.le_refl _), Nat.le_refl _⟩

theorem take_meet_b {w w2 : World} {T : TN} {A : Array Value} {t : TypeId} (hb : Below ((w.alloc (.cells A t)).drew).heap.size ((w.alloc (.cells A t)).drew) w2) :
    ∃ g, w.heap.size < g ∧ Value.pointer (some ⟨w2.heap.size, 0, none⟩) = .pointer (some ⟨g, 0, none⟩) ∧ (w2.alloc (.cells #[.int .i64 T.kind, .int .i64 T.at_, .int .i64 T.beh, .string (bs T.word), .int .i64 T.num] t)).heap[g]? = some (.cells #[.int .i64 T.kind, .int .i64 T.at_, .int .i64 T.beh, .string (bs T.word), .int .i64 T.num] t (0, 0)) ∧
      (w2.alloc (.cells #[.int .i64 T.kind, .int .i64 T.at_, .int .i64 T.beh, .string (bs T.word), .int .i64 T.num] t)).heap[w.heap.size]? = some (.cells A t (0, 0)) ∧ Below w.heap.size w (w2.alloc (.cells #[.int .i64 T.kind, .int .i64 T.at_, .int .i64 T.beh, .string (bs T.word), .int .i64 T.num] t)) := by
  have hs : w.heap.size + 1 ≤ w2.heap.size := by have := hb.size; simpa using this
  have h0 : w2.heap[w.heap.size]? = some (.cells A t (0, 0)) := by
    rw [hb.block w.heap.size (by show w.heap.size < (w.alloc (.cells A t)).heap.size; simp)]
    exact blk_new w (.cells A t)
  refine ⟨w2.heap.size, by omega, rfl, blk_new _ _, blk_alloc _ h0, ?_⟩
  have h1 : Below w.heap.size w (w.alloc (.cells A t)).drew := ((Below.refl _ w).alloc (Nat.le_refl _) (.cells A t)).trans ⟨rfl, rfl, rfl, Nat.le_refl _, fun _ _ => rfl⟩
  exact (h1.trans (hb.mono (by show w.heap.size ≤ (w.alloc (.cells A t)).heap.size; simp))).alloc (by omega) _
theorem take_meet_a {w w2 : World} {T : TN} {A : Array Value} {a b c d e : Value} {t : TypeId} (hb : Below ((w.alloc (.cells A t)).alloc (.cells #[a, b, c, d, e] t)).drew.heap.size ((w.alloc (.cells A t)).alloc (.cells #[a, b, c, d, e] t)).drew w2) :
    ∃ g, w.heap.size < g ∧ Value.pointer (some ⟨w.heap.size + 1, 0, none⟩) = .pointer (some ⟨g, 0, none⟩) ∧ (((((w2.setCell ⟨w.heap.size + 1, 0, none⟩ (.int .i64 T.kind)).setCell ⟨w.heap.size + 1, 1, none⟩ (.int .i64 T.at_)).setCell ⟨w.heap.size + 1, 2, none⟩ (.int .i64 T.beh)).setCell ⟨w.heap.size + 1, 3, none⟩ (.string (bs T.word))).setCell ⟨w.heap.size + 1, 4, none⟩ (.int .i64 T.num)).heap[g]? = some (.cells #[.int .i64 T.kind, .int .i64 T.at_, .int .i64 T.beh, .string (bs T.word), .int .i64 T.num] t (0, 0)) ∧
      (((((w2.setCell ⟨w.heap.size + 1, 0, none⟩ (.int .i64 T.kind)).setCell ⟨w.heap.size + 1, 1, none⟩ (.int .i64 T.at_)).setCell ⟨w.heap.size + 1, 2, none⟩ (.int .i64 T.beh)).setCell ⟨w.heap.size + 1, 3, none⟩ (.string (bs T.word))).setCell ⟨w.heap.size + 1, 4, none⟩ (.int .i64 T.num)).heap[w.heap.size]? = some (.cells A t (0, 0)) ∧
      Below w.heap.size w (((((w2.setCell ⟨w.heap.size + 1, 0, none⟩ (.int .i64 T.kind)).setCell ⟨w.heap.size + 1, 1, none⟩ (.int .i64 T.at_)).setCell ⟨w.heap.size + 1, 2, none⟩ (.int .i64 T.beh)).setCell ⟨w.heap.size + 1, 3, none⟩ (.string (bs T.word))).setCell ⟨w.heap.size + 1, 4, none⟩ (.int .i64 T.num)) := by
  have hq := alloc2_kept hb
  have h0 : w2.heap[w.heap.size]? = some (.cells A t (0, 0)) := by
    rw [hb.block w.heap.size (by show w.heap.size < ((w.alloc (.cells A t)).alloc (.cells #[a, b, c, d, e] t)).heap.size; simp; omega)]
    exact blk_alloc _ (blk_new w (.cells A t))
  refine ⟨w.heap.size + 1, by omega, rfl, ?_, ?_, ?_⟩
  · exact blk_set (blk_set (blk_set (blk_set (blk_set hq 0 _) 1 _) 2 _) 3 _) 4 _
  · rw [blk_other _ _ (by simp only; omega), blk_other _ _ (by simp only; omega), blk_other _ _ (by simp only; omega), blk_other _ _ (by simp only; omega), blk_other _ _ (by simp only; omega)]
    exact h0
  · have h1 : Below w.heap.size w ((w.alloc (.cells A t)).alloc (.cells #[a, b, c, d, e] t)).drew := (((Below.refl _ w).alloc (Nat.le_refl _) (.cells A t)).alloc (by simp) (.cells #[a, b, c, d, e] t)).trans ⟨rfl, rfl, rfl, Nat.le_refl _, fun _ _ => rfl⟩
    have h2 := h1.trans (hb.mono (by show w.heap.size ≤ ((w.alloc (.cells A t)).alloc (.cells #[a, b, c, d, e] t)).heap.size; simp; omega))
    exact ((((h2.setCell (p := ⟨w.heap.size + 1, 0, none⟩) (by simp) _).setCell (p := ⟨w.heap.size + 1, 1, none⟩) (by simp) _).setCell (p := ⟨w.heap.size + 1, 2, none⟩) (by simp) _).setCell (p := ⟨w.heap.size + 1, 3, none⟩) (by simp) _).setCell (p := ⟨w.heap.size + 1, 4, none⟩) (by simp) _

set_option maxRecDepth 100000 in
set_option maxHeartbeats 2000000 in
theorem take_any (s : ByteArray) (placed : Bool) (pb : Nat) (w : World) (sv nv ov : Value) (st : PS) (hs : s.size ≤ 9000) (h : PIn s placed pb w sv nv ov st) :
    Calls Tryd.prog 96 #[ptr pb] w fun v w' => v = .returned (tnVal (tk1 s.size st.l)) ∧ PFr pb pb w w' sv nv ov sv nv ov ∧ PIn s placed pb w' sv nv ov st.tail := by
  obtain ⟨fr, hf1, hf2, hf3⟩ := h.y
  obtain ⟨l1, l2, l3, l4⟩ := h.slt
  have hnx := fun w => Next_any s fr w hs hf1
  have hnb := next_beh s fr hf1
  rw [hf2] at hnx hnb
  have y0 : w.cell? ⟨pb, 0, none⟩ = some (.string s) := by rw [blk_cell hf3]; rfl
  have y2 : w.cell? ⟨pb, 2, none⟩ = some (.int .i64 fr) := by rw [blk_cell hf3]; rfl
  have HNB : Hid _ := hnb
  have HH : Hid _ := h
  have HF3 : Hid _ := hf3
  have HL1 : Hid _ := l1
  have HL2 : Hid _ := l2
  have HL3 : Hid _ := l3
  generalize tk1 s.size st.l = T at hnx HNB
  unfold tnVal at hnx
  clear hf1 hf2 hf3 hnb h l1 l2 l3
  show Calls _ _ #[Value.pointer (some ⟨pb, 0, none⟩)] w _
  go_enter Tryd.func96, Tryd.ntmps96
  go_upto_region 1 with fail
  go_cut [3] from 4 to 12 (fun t3 wx => ∃ g, w.heap.size < g ∧ t3 = .pointer (some ⟨g, 0, none⟩) ∧ wx.heap[g]? = some (.cells #[.int .i64 T.kind, .int .i64 T.at_, .int .i64 T.beh, .string (bs T.word), .int .i64 T.num] 151 (0, 0)) ∧
      wx.heap[w.heap.size]? = some (.cells #[.int .i64 0, .int .i64 0, .int .i64 0, .string ⟨#[]⟩, .int .i64 0] 151 (0, 0)) ∧ Below w.heap.size w wx)
  case first =>
    go_region_with (go_at_call 110; refine (hnx _).mono ?_; rintro e w2 ⟨rfl, hb2⟩; (try (have hq := alloc2_kept hb2; obtain ⟨c0, c1, c2, c3, c4⟩ := tok_cells hq; have f0 := blk_free hq 0; have f1 := blk_free hq 1; have f2 := blk_free hq 2; have f3 := blk_free hq 3; have f4 := blk_free hq 4)))
    all_goals (go_wp2_with fail; go_meet)
    all_goals first
      | exact take_meet_b hb2
      | exact take_meet_a hb2
  case rest =>
  obtain ⟨g, hg, rfl, hcg, hcr, hbc⟩ := hcut
  obtain ⟨c0, c1, c2, c3, c4⟩ := tok_cells hcg
  have yc : wc.heap[pb]? = some (.cells (psCells s placed fr st.fl.isSome (st.fl.getD 0) sv nv ov) 120 (0, 0)) := by rw [hbc.block pb l4]; exact HF3.out
  have z2 : wc.cell? ⟨pb, 2, none⟩ = some (.int .i64 fr) := by rw [blk_cell yc]; rfl
  have zf2 : wc.frozen? ⟨pb, 2, none⟩ = false := blk_free yc 2
  have hgp : g ≠ pb := by omega
  have hrp : w.heap.size ≠ pb := by omega
  have hr2 : (wc.setCell ⟨pb, 2, none⟩ (.int .i64 T.beh)).heap[w.heap.size]? = some (.cells #[.int .i64 0, .int .i64 0, .int .i64 0, .string ⟨#[]⟩, .int .i64 0] 151 (0, 0)) := by
    rw [blk_other _ _ (by simp only; omega)]; exact hcr
  have HYC : Hid _ := yc
  have HBC : Hid _ := hbc
  have hgw := blk_lt hcg
  clear yc hbc hcr hcg y0 y2 hnx
  go_wp2_with (refine st_row rfl 151 (.tmp 2) (.tmp 18) rfl w.heap.size #[.int .i64 T.kind, .int .i64 T.at_, .int .i64 T.beh, .string (bs T.word), .int .i64 T.num] rfl rfl 151 _ hr2 Tryd.infoTN rfl (tn_one T) ?_; intro W hW hWs hWo hW1 hW2 hW3)
  obtain ⟨d0, d1, d2, d3, d4⟩ := tok_cells hW
  refine bodyPost_ret (v := .agg #[.int .i64 T.kind, .int .i64 T.at_, .int .i64 T.beh, .string (bs T.word), .int .i64 T.num]) (by simp [results, Tryd.results96, go_sem, d0, d1, d2, d3, d4]) rfl ⟨rfl, ?_, ?_⟩
  · have hb := HBC.out
    refine ⟨hW1.trans hb.os, hW2.trans hb.tape, hW3.trans hb.output, by rw [hWs]; simp only [World.setCell, Array.size_modify]; exact hb.size, ?_, fun _ h => Or.inl h, fun _ h => Or.inl h, fun _ h => Or.inl h⟩
    intro k hk hkp _ _ _ _
    rw [hWo k (by omega), blk_other _ _ (by simpa using hkp)]
    exact hb.block k hk
  · have kp : ∀ k, k < w.heap.size → k ≠ pb → W.heap[k]? = w.heap[k]? := by
      intro k hk hkp
      rw [hWo k (by omega), blk_other _ _ (by simpa using hkp)]
      exact HBC.out.block k hk
    refine PIn.move HH.out st.tail.l st.tail.fl (fun k hk => kp k (HL1.out k hk) (fun e => HH.out.sy (by rw [hk, e]))) (fun k hk => kp k (HL2.out k hk) (fun e => HH.out.ny (by rw [hk, e]))) (fun k hk => kp k (HL3.out k hk) (fun e => HH.out.oy (by rw [hk, e]))) ⟨T.beh, HNB.out.2, HNB.out.1, ?_⟩
    rw [hWo pb (by omega)]
    exact blk_set HYC.out 2 _
end Go.Proofs.YtglkpkmdoohdcaaDoor

namespace Go.Proofs.YtglkpkmdoohdcaaDoor
open Go.RowKit

set_option maxRecDepth 100000 in
set_option maxHeartbeats 2000000 in
theorem fail_any (s : ByteArray) (placed : Bool) (pb : Nat) (w : World) (sv nv ov : Value) (st : PS) (a : Nat) (h : PIn s placed pb w sv nv ov st) :
    Calls Tryd.prog 97 #[ptr pb, .int .i64 a] w fun v w' => v = .returned (.tuple #[]) ∧ PFr pb pb w w' sv nv ov sv nv ov ∧ PIn s placed pb w' sv nv ov (st.fail a) := by
  obtain ⟨fr, hf1, hf2, hf3⟩ := h.y
  have y0 : w.cell? ⟨pb, 0, none⟩ = some (.string s) := by rw [blk_cell hf3]; rfl
  have y2 : w.cell? ⟨pb, 2, none⟩ = some (.int .i64 fr) := by rw [blk_cell hf3]; rfl
  have y3 : w.cell? ⟨pb, 3, none⟩ = some (.bool st.fl.isSome) := by rw [blk_cell hf3]; rfl
  have y4 : w.cell? ⟨pb, 4, none⟩ = some (.int .i64 (st.fl.getD 0)) := by rw [blk_cell hf3]; rfl
  have g2 : w.frozen? ⟨pb, 2, none⟩ = false := blk_free hf3 2
  have g3 : w.frozen? ⟨pb, 3, none⟩ = false := blk_free hf3 3
  have g4 : w.frozen? ⟨pb, 4, none⟩ = false := blk_free hf3 4
  have HH : Hid _ := h
  have HF3 : Hid _ := hf3
  have hpb := blk_lt hf3
  clear hf1 hf2 hf3 h
  show Calls _ _ #[Value.pointer (some ⟨pb, 0, none⟩), _] w _
  cases hfl : st.fl with
  | some q =>
    have e : st.fail a = st := by unfold PS.fail; rw [hfl]
    rw [hfl] at y3 y4
    rw [e]
    simp only [Option.isSome_some] at y3
    clear e hfl
    go_enter Tryd.func97, Tryd.ntmps97
    go_wp2
    refine bodyPost_ret (v := .tuple #[]) (by simp [results, Tryd.results97, go_sem]) rfl ⟨rfl, PFr.refl _ _ _ _ _ _, HH.out⟩
  | none =>
    have e : st.fail a = { st with l := [], fl := some a } := by unfold PS.fail; rw [hfl]
    rw [hfl] at y3 y4
    rw [e]
    simp only [Option.isSome_none] at y3
    have HFL : Hid _ := hfl
    clear e hfl
    go_enter Tryd.func97, Tryd.ntmps97
    go_wp2
    refine bodyPost_end (v := .tuple #[]) (by simp [results, Tryd.results97, go_sem]) rfl ⟨rfl, ?_, ?_⟩
    · refine ⟨rfl, rfl, rfl, by simp [World.setCell], ?_, fun _ h => Or.inl h, fun _ h => Or.inl h, fun _ h => Or.inl h⟩
      intro k hk hkp _ _ _ _
      rw [blk_other _ _ (by simpa using hkp), blk_other _ _ (by simpa using hkp), blk_other _ _ (by simpa using hkp)]
    · have kp : ∀ k, k ≠ pb → (((w.setCell ⟨pb, 3, none⟩ (.bool true)).setCell ⟨pb, 4, none⟩ (.int .i64 a)).setCell ⟨pb, 2, none⟩ (.int .i64 s.size)).heap[k]? = w.heap[k]? := by
        intro k hkp
        rw [blk_other _ _ (by simpa using hkp), blk_other _ _ (by simpa using hkp), blk_other _ _ (by simpa using hkp)]
      refine PIn.move HH.out [] (some a) (fun k hk => kp k (fun e => HH.out.sy (by rw [hk, e]))) (fun k hk => kp k (fun e => HH.out.ny (by rw [hk, e]))) (fun k hk => kp k (fun e => HH.out.oy (by rw [hk, e]))) ⟨s.size, Nat.le_refl _, tks_end s s.size (Nat.le_refl _), ?_⟩
      exact blk_set (blk_set (blk_set HF3.out 3 _) 4 _) 2 _

/-- a result's block, made at first and written at last -/
theorem res_end {s : ByteArray} {placed : Bool} {pb nb : Nat} {w w1 w2 W : World} {A : Obj} {sv nv ov sv' nv' ov' : Value} {st st' : PS} (h : PIn s placed pb w sv nv ov st) (hfr : PFr pb nb (w.alloc A) w1 sv nv ov sv' nv' ov') (hin : PIn s placed pb w1 sv' nv' ov' st')
    (hb : Below w1.heap.size w1 w2) (hWs : W.heap.size = w2.heap.size) (hWo : ∀ k, k ≠ w.heap.size → W.heap[k]? = w2.heap[k]?) (e1 : W.os = w2.os) (e2 : W.tape = w2.tape) (e3 : W.output = w2.output) :
    PFr pb nb w W sv nv ov sv' nv' ov' ∧ PIn s placed pb W sv' nv' ov' st' := by
  obtain ⟨l1, l2, l3, l4⟩ := h.slt
  have hsz : w.heap.size + 1 ≤ w1.heap.size := by have := hfr.size; simpa using this
  have hbs := hb.size
  have f0 : PFr pb nb w w1 sv nv ov sv' nv' ov' := (PFr.below pb nb sv nv ov ((Below.refl _ w).alloc (Nat.le_refl _) A)).trans hfr
  have f1 := f0.trans (PFr.below pb nb sv' nv' ov' hb)
  refine ⟨⟨e1.trans f1.os, e2.trans f1.tape, e3.trans f1.output, by rw [hWs]; exact f1.size, fun k hk hp hn a b c => by rw [hWo k (by omega)]; exact f1.blk k hk hp hn a b c, f1.s, f1.n, f1.o⟩, ?_⟩
  obtain ⟨m1, m2, m3, m4⟩ := hin.slt
  have hal : (w.alloc A).heap.size = w.heap.size + 1 := by simp
  have kp : ∀ k, k < w1.heap.size → k ≠ w.heap.size → W.heap[k]? = w1.heap[k]? := fun k hk hne => by rw [hWo k hne]; exact hb.block k hk
  obtain ⟨fr, y1, y2, y3⟩ := hin.y
  refine PIn.move hin st'.l st'.fl (fun k hk => kp k (m1 k hk) ?_) (fun k hk => kp k (m2 k hk) ?_) (fun k hk => kp k (m3 k hk) ?_) ⟨fr, y1, y2, by rw [kp pb m4 (by omega)]; exact y3⟩
  · rcases hfr.s k hk with e | e
    · have := l1 k e; omega
    · omega
  · rcases hfr.n k hk with e | e
    · have := l2 k e; omega
    · omega
  · rcases hfr.o k hk with e | e
    · have := l3 k e; omega
    · omega
theorem PFr.newBlk {pb nb : Nat} {w w1 : World} {A : Obj} {sv nv ov sv' nv' ov' : Value} (hfr : PFr pb nb (w.alloc A) w1 sv nv ov sv' nv' ov') (l1 : ∀ k, sv.ownBlock = some k → k < w.heap.size) (l2 : ∀ k, nv.ownBlock = some k → k < w.heap.size) (l3 : ∀ k, ov.ownBlock = some k → k < w.heap.size) (l4 : pb < w.heap.size) (l5 : nb < w.heap.size) :
    w1.heap[w.heap.size]? = some A := by
  rw [hfr.blk w.heap.size (by simp) (by omega) (by omega) (fun e => by have := l1 _ e; omega) (fun e => by have := l2 _ e; omega) (fun e => by have := l3 _ e; omega)]
  exact blk_new _ _

set_option maxRecDepth 100000 in
set_option maxHeartbeats 2000000 in
theorem expect_any (s : ByteArray) (placed : Bool) (pb : Nat) (w : World) (sv nv ov : Value) (st : PS) (k : Nat) (hs : s.size ≤ 9000) (h : PIn s placed pb w sv nv ov st) :
    Calls Tryd.prog 75 #[ptr pb, .int .i64 k] w fun v w' => v = .returned (tnVal (tk1 s.size st.l)) ∧ PFr pb pb w w' sv nv ov sv nv ov ∧ PIn s placed pb w' sv nv ov (st.expect s.size k) := by
  have htk := fun w h => take_any s placed pb w sv nv ov st hs h
  have hfa := fun w a h => fail_any s placed pb w sv nv ov st.tail a h
  have HH : Hid _ := h
  obtain ⟨l1, l2, l3, l4⟩ := h.slt
  have HL1 : Hid _ := l1
  have HL2 : Hid _ := l2
  have HL3 : Hid _ := l3
  have hex : st.expect s.size k = if (tk1 s.size st.l).kind ≠ k then st.tail.fail (tk1 s.size st.l).at_ else st.tail := rfl
  rw [hex]
  clear hex l1 l2 l3 h
  generalize tk1 s.size st.l = T at htk
  unfold tnVal ptr at htk
  unfold ptr at hfa
  have ha : PIn s placed pb (w.alloc (.cells #[.int .i64 0, .int .i64 0, .int .i64 0, .string ⟨#[]⟩, .int .i64 0] 151)) sv nv ov st := HH.out.below ((Below.refl _ w).alloc (Nat.le_refl _) _)
  have htk' := htk _ ha
  show Calls _ _ #[Value.pointer (some ⟨pb, 0, none⟩), _] w _
  clear htk ha
  by_cases hk : T.kind = k
  · have hkb : ((T.kind : Int) != (k : Int)) = false := by simp [hk]
    rw [if_neg (by simp [hk])]
    clear hk hfa
    go_enter Tryd.func75, Tryd.ntmps75
    go_wp2_with fail
    refine htk'.mono ?_
    rintro _ w1 ⟨rfl, hfr, hin⟩
    have hs1 : w.heap.size + 1 ≤ w1.heap.size := by have := hfr.size; simpa using this
    have hrb : w1.heap[w.heap.size]? = some (.cells #[.int .i64 0, .int .i64 0, .int .i64 0, .string ⟨#[]⟩, .int .i64 0] 151 (0, 0)) := by
      rw [hfr.blk w.heap.size (by simp) (by omega) (by omega) (fun e => by have := HL1.out _ e; omega) (fun e => by have := HL2.out _ e; omega) (fun e => by have := HL3.out _ e; omega)]
      exact blk_new _ _
    have hrb2 := blk_alloc (.cells #[.int .i64 T.kind, .int .i64 T.at_, .int .i64 T.beh, .string (bs T.word), .int .i64 T.num] 151) hrb
    have HFR : Hid _ := hfr
    have HIN : Hid _ := hin
    have hgne : w.heap.size ≠ w1.heap.size := by omega
    clear hfr hin hrb htk'
    go_wp2_with (refine st_row rfl 151 (.tmp 4) (.tmp 16) rfl w.heap.size #[.int .i64 T.kind, .int .i64 T.at_, .int .i64 T.beh, .string (bs T.word), .int .i64 T.num] rfl rfl 151 _ hrb2 Tryd.infoTN rfl (tn_one T) ?_; intro W hW hWs hWo hW1 hW2 hW3)
    obtain ⟨d0, d1, d2, d3, d4⟩ := tok_cells hW
    refine bodyPost_ret (v := .agg #[.int .i64 T.kind, .int .i64 T.at_, .int .i64 T.beh, .string (bs T.word), .int .i64 T.num]) (by simp [results, Tryd.results75, go_sem, d0, d1, d2, d3, d4]) rfl ⟨rfl, res_end HH.out HFR.out HIN.out ((Below.refl _ w1).alloc (Nat.le_refl _) _) hWs hWo hW1 hW2 hW3⟩
  · have hkb : ((T.kind : Int) != (k : Int)) = true := by simp; omega
    rw [if_pos hk]
    clear hk
    go_enter Tryd.func75, Tryd.ntmps75
    go_wp2_with fail
    refine htk'.mono ?_
    rintro _ w1 ⟨rfl, hfr, hin⟩
    have hrb := hfr.newBlk HL1.out HL2.out HL3.out l4 l4
    have hs1 : w.heap.size + 1 ≤ w1.heap.size := by have := hfr.size; simpa using this
    have HFR : Hid _ := hfr
    have HIN : Hid _ := hin
    have hgne : w.heap.size ≠ w1.heap.size := by omega
    clear hfr hin htk'
    go_wp2_with fail
    refine (hfa _ T.at_ (HIN.out.below ((Below.refl _ w1).alloc (Nat.le_refl _) _))).mono ?_
    rintro _ w3 ⟨rfl, hfr3, hin3⟩
    have hlt := HIN.out.slt
    have hq := hfr3.newBlk hlt.1 hlt.2.1 hlt.2.2.1 hlt.2.2.2 hlt.2.2.2
    obtain ⟨c0, c1, c2, c3, c4⟩ := tok_cells hq
    have hrb3 : w3.heap[w.heap.size]? = some (.cells #[.int .i64 0, .int .i64 0, .int .i64 0, .string ⟨#[]⟩, .int .i64 0] 151 (0, 0)) := by
      rw [hfr3.blk w.heap.size (by simp; omega) (by omega) (by omega) (fun e => by have := HL1.out _ e; omega) (fun e => by have := HL2.out _ e; omega) (fun e => by have := HL3.out _ e; omega)]
      exact blk_alloc _ hrb
    have HF3 : Hid _ := HFR.out.trans ((PFr.below pb pb sv nv ov ((Below.refl _ w1).alloc (Nat.le_refl _) _)).trans hfr3)
    have HIN3 : Hid _ := hin3
    clear hfr3 hin3 hq hlt hrb
    go_wp2_with (refine st_row rfl 151 (.tmp 4) (.tmp 16) rfl w.heap.size #[.int .i64 T.kind, .int .i64 T.at_, .int .i64 T.beh, .string (bs T.word), .int .i64 T.num] rfl rfl 151 _ hrb3 Tryd.infoTN rfl (tn_one T) ?_; intro W hW hWs hWo hW1 hW2 hW3)
    obtain ⟨d0, d1, d2, d3, d4⟩ := tok_cells hW
    refine bodyPost_ret (v := .agg #[.int .i64 T.kind, .int .i64 T.at_, .int .i64 T.beh, .string (bs T.word), .int .i64 T.num]) (by simp [results, Tryd.results75, go_sem, d0, d1, d2, d3, d4]) rfl ⟨rfl, res_end HH.out HF3.out HIN3.out (Below.refl _ _) hWs hWo hW1 hW2 hW3⟩
end Go.Proofs.YtglkpkmdoohdcaaDoor
