import Derived.Test.YtpicaknklgccoaaGreatDoorP2
import Derived.BigRegion
import Derived.BigQuiet
import Derived.Deep.QuietTactic
namespace Go.Proofs.YtpicaknklgccoaaGreatDoor
open Go.RowKit
theorem gr_trans {a b c : World} {row : Option Nat} (h : a.grownBy b row) (k : b.grownBy c row) : a.grownBy c row :=
 ⟨k.os.trans h.os, k.tape.trans h.tape, k.output.trans h.output, Nat.le_trans h.size k.size, fun i hi hr => (k.block i (Nat.lt_of_lt_of_le hi h.size) hr).trans (h.block i hi hr)⟩
theorem gr_set (w : World) (p : Addr) (u : Value) : w.grownBy (w.setCell p u) (some p.block) :=
 ⟨rfl, rfl, rfl, by simp [World.setCell], fun k _ hk => Below.heap_setCell _ _ _ _ (fun e => hk (by rw [e]))⟩
theorem gr_alloc (w : World) (o : Obj) (row : Option Nat) : w.grownBy (w.alloc o) row := World.grownBy_alloc w o row
theorem gr_drew (w : World) (row : Option Nat) : w.grownBy w.drew row := ⟨rfl, rfl, rfl, Nat.le_refl _, fun _ _ _ => rfl⟩
structure TokOk (ts : List Tk) : Prop where
 num : ∀ t ∈ ts, t.c = .num → t.s.length ≤ 5
 reg : ∀ t ∈ ts, t.c = .reg → t.s.length ≤ 5
 nam : ∀ t ∈ ts, t.c = .nam → t.s ≠ []
def cntCells (tv : Value) (p ids sites : Nat) : Array Value := #[tv, .int .i64 p, .int .i64 ids, .int .i64 sites]
structure BIn (ts : List Tk) (gt tc cb p ids sites : Nat) (w : World) : Prop where
 ne : gt ≠ cb
 c : w.heap[cb]? = some (.cells (cntCells (.slice (some ⟨gt, 0, none⟩) ts.length tc) p ids sites) 181 (0, 0))
 tk : w.ownsRow 0 177 3 (.slice (some ⟨gt, 0, none⟩) ts.length tc) ts.length (ts.flatMap tkCells)
def BOut (ts : List Tk) (gt tc cb p ids sites : Nat) (w : World) (e : PT) (used : Nat) (v : Ending) (w' : World) : Prop :=
 ∃ b, v = .returned (ptr b) ∧ w'.heap[cb]? = some (.cells (cntCells (.slice (some ⟨gt, 0, none⟩) ts.length tc) (p + used) (ids + e.cnt) (sites + e.prs)) 181 (0, 0)) ∧
  w.grownBy w' (some cb) ∧ IsT w' (fun k => w.heap.size ≤ k ∧ k < w'.heap.size) e ids sites b
theorem leaf_end {w : World} {cb : Nat} {tv : Value} {p ids sites : Nat} (X T : Obj) (hc : w.heap[cb]? = some (.cells (cntCells tv p ids sites) 181 (0, 0))) :
  (((((w.setCell ⟨cb, 2, none⟩ (.int .i64 ((ids : Int) + 1))).setCell ⟨cb, 1, none⟩ (.int .i64 ((p : Int) + 1))).alloc X).alloc T).drew.drew).heap[cb]? = some (.cells (cntCells tv (p + 1) (ids + 1) sites) 181 (0, 0)) ∧
  w.grownBy (((((w.setCell ⟨cb, 2, none⟩ (.int .i64 ((ids : Int) + 1))).setCell ⟨cb, 1, none⟩ (.int .i64 ((p : Int) + 1))).alloc X).alloc T).drew.drew) (some cb) ∧
  (((((w.setCell ⟨cb, 2, none⟩ (.int .i64 ((ids : Int) + 1))).setCell ⟨cb, 1, none⟩ (.int .i64 ((p : Int) + 1))).alloc X).alloc T).drew.drew).heap[w.heap.size]? = some X ∧
  (((((w.setCell ⟨cb, 2, none⟩ (.int .i64 ((ids : Int) + 1))).setCell ⟨cb, 1, none⟩ (.int .i64 ((p : Int) + 1))).alloc X).alloc T).drew.drew).heap.size = w.heap.size + 2 := by
 have e : ((w.setCell ⟨cb, 2, none⟩ (.int .i64 ((ids : Int) + 1))).setCell ⟨cb, 1, none⟩ (.int .i64 ((p : Int) + 1))).heap.size = w.heap.size := by simp [World.setCell]
 refine ⟨?_, ?_, ?_, ?_⟩
 ·show ((((w.setCell ⟨cb, 2, none⟩ (.int .i64 ((ids : Int) + 1))).setCell ⟨cb, 1, none⟩ (.int .i64 ((p : Int) + 1))).alloc X).alloc T).heap[cb]? = _
  exact blk_alloc _ (blk_alloc _ (blk_set (blk_set hc 2 _) 1 _))
 ·exact gr_trans (gr_trans (gr_trans (gr_trans (gr_trans (gr_set w ⟨cb, 2, none⟩ _) (gr_set _ ⟨cb, 1, none⟩ _)) (gr_alloc _ _ _)) (gr_alloc _ _ _)) (gr_drew _ _)) (gr_drew _ _)
 ·show ((((w.setCell ⟨cb, 2, none⟩ (.int .i64 ((ids : Int) + 1))).setCell ⟨cb, 1, none⟩ (.int .i64 ((p : Int) + 1))).alloc X).alloc T).heap[w.heap.size]? = _
  refine blk_alloc _ ?_
  have := blk_new ((w.setCell ⟨cb, 2, none⟩ (.int .i64 ((ids : Int) + 1))).setCell ⟨cb, 1, none⟩ (.int .i64 ((p : Int) + 1))) X
  rw [e] at this; exact this
 ·show ((((w.setCell ⟨cb, 2, none⟩ (.int .i64 ((ids : Int) + 1))).setCell ⟨cb, 1, none⟩ (.int .i64 ((p : Int) + 1))).alloc X).alloc T).heap.size = _
  simp [e]
theorem tk_at {ts : List Tk} {gt tc : Nat} {w : World} {t : Tk} {p : Nat} (h : w.ownsRow 0 177 3 (.slice (some ⟨gt, 0, none⟩) ts.length tc) ts.length (ts.flatMap tkCells)) (ht : ts[p]? = some t) :
  w.cell? ⟨gt, p * 3, none⟩ = some (.string (bs t.s)) ∧ w.cell? ⟨gt, p * 3 + 1, none⟩ = some (.int .i64 t.at_) ∧ w.cell? ⟨gt, p * 3 + 2, none⟩ = some (.string (bs t.c.bytes)) := by
 have hp : p < ts.length := by
  rcases Nat.lt_or_ge p ts.length with h1 | h1
  ·exact h1
  ·rw [List.getElem?_eq_none h1] at ht; cases ht
 refine ⟨?_, ?_, ?_⟩
 ·rw [h.cellAt (p * 3) (by omega)]; exact tk_cell ts p t ht 0 (by omega)
 ·rw [h.cellAt (p * 3 + 1) (by omega)]; exact tk_cell ts p t ht 1 (by omega)
 ·rw [h.cellAt (p * 3 + 2) (by omega)]; exact tk_cell ts p t ht 2 (by omega)
set_option maxRecDepth 100000 in
set_option maxHeartbeats 1000000 in
theorem build_num (ts : List Tk) (hok : TokOk ts) (hl : ts.length ≤ 9000) (gt tc cb p ids sites : Nat) (t : Tk) (w : World) (hin : BIn ts gt tc cb p ids sites w) (ht : ts[p]? = some t) (hp : p < ts.length) (hids : ids ≤ 9000)
  (h1 : t.c = .num) : Calls Tryz.prog 102 #[ptr cb] w (BOut ts gt tc cb p ids sites w (.num t.at_ t.s) 1) := by
 obtain ⟨hne, hc, htk⟩ := hin
 have c0 : w.cell? ⟨cb, 0, none⟩ = some (.slice (some ⟨gt, 0, none⟩) ts.length tc) := by rw [blk_cell hc]; rfl
 have c1 : w.cell? ⟨cb, 1, none⟩ = some (.int .i64 p) := by rw [blk_cell hc]; rfl
 have c2 : w.cell? ⟨cb, 2, none⟩ = some (.int .i64 ids) := by rw [blk_cell hc]; rfl
 have c3 : w.cell? ⟨cb, 3, none⟩ = some (.int .i64 sites) := by rw [blk_cell hc]; rfl
 have f1 : w.frozen? ⟨cb, 1, none⟩ = false := blk_free hc 1
 have f2 : w.frozen? ⟨cb, 2, none⟩ = false := blk_free hc 2
 obtain ⟨t0, t1, t2⟩ := tk_at htk ht
 have hcb := blk_lt hc
 have hgt := (htk.lt gt rfl).2
 have hne' : cb ≠ gt := fun h => hne h.symm
 have HC : Hid _ := hc
 have hsl := hok.num t (List.mem_of_getElem? ht) h1
 have q1 : ((bs t.c.bytes).toList == [78, 85, 77, 66, 69, 82]) = true := by rw [h1, bs_beq]; decide
 have hval := value_any (bs t.s)
 rw [bs_toList] at hval
 clear h1 hc htk ht
 unfold ptr
 go_enter Tryz.func102, Tryz.ntmps102
 go_wp2
 go_region
 go_wp2
 go_region
 go_wp2_with (go_at_call 134; refine (hval _ (by rw [bs_size]; exact hsl)).mono ?_; rintro e w' ⟨rfl, rfl⟩)
 go_ret
 obtain ⟨g1, g2, g3, g4⟩ := leaf_end (.cells (exCells numB t.at_ [] (valueL t.s) (.slice none 0 0) ids ids sites) 82 (0, 0)) (.cells #[.string (bs t.s), .int .i64 t.at_, .string (bs t.c.bytes)] 177) HC.out
 refine ⟨w.heap.size, rfl, g1, g2, ?_⟩
 simp only [IsT]
 exact ⟨⟨Nat.le_refl _, Nat.lt_of_lt_of_eq (by omega : w.heap.size < w.heap.size + 2) g4.symm⟩, g3⟩
set_option maxRecDepth 100000 in
set_option maxHeartbeats 1000000 in
theorem build_name (ts : List Tk) (hl : ts.length ≤ 9000) (gt tc cb p ids sites : Nat) (t : Tk) (w : World) (hin : BIn ts gt tc cb p ids sites w) (ht : ts[p]? = some t) (hp : p < ts.length) (hids : ids ≤ 9000)
  (h1 : t.c = .nam) : Calls Tryz.prog 102 #[ptr cb] w (BOut ts gt tc cb p ids sites w (.name t.at_ t.s) 1) := by
 obtain ⟨hne, hc, htk⟩ := hin
 have c0 : w.cell? ⟨cb, 0, none⟩ = some (.slice (some ⟨gt, 0, none⟩) ts.length tc) := by rw [blk_cell hc]; rfl
 have c1 : w.cell? ⟨cb, 1, none⟩ = some (.int .i64 p) := by rw [blk_cell hc]; rfl
 have c2 : w.cell? ⟨cb, 2, none⟩ = some (.int .i64 ids) := by rw [blk_cell hc]; rfl
 have c3 : w.cell? ⟨cb, 3, none⟩ = some (.int .i64 sites) := by rw [blk_cell hc]; rfl
 have f1 : w.frozen? ⟨cb, 1, none⟩ = false := blk_free hc 1
 have f2 : w.frozen? ⟨cb, 2, none⟩ = false := blk_free hc 2
 obtain ⟨t0, t1, t2⟩ := tk_at htk ht
 have hcb := blk_lt hc
 have hgt := (htk.lt gt rfl).2
 have hne' : cb ≠ gt := fun h => hne h.symm
 have HC : Hid _ := hc
 have q1 : ((bs t.c.bytes).toList == [78, 85, 77, 66, 69, 82]) = false := by rw [h1, bs_beq]; decide
 have q2 : ((bs t.c.bytes).toList == [78, 65, 77, 69]) = true := by rw [h1, bs_beq]; decide
 clear h1 hc htk ht
 unfold ptr
 go_enter Tryz.func102, Tryz.ntmps102
 go_wp2
 go_region
 go_wp2
 go_region
 go_wp2
 go_ret
 obtain ⟨g1, g2, g3, g4⟩ := leaf_end (.cells (exCells nameB t.at_ t.s 0 (.slice none 0 0) ids ids sites) 82 (0, 0)) (.cells #[.string (bs t.s), .int .i64 t.at_, .string (bs t.c.bytes)] 177) HC.out
 refine ⟨w.heap.size, rfl, g1, g2, ?_⟩
 simp only [IsT]
 exact ⟨⟨Nat.le_refl _, Nat.lt_of_lt_of_eq (by omega : w.heap.size < w.heap.size + 2) g4.symm⟩, g3⟩
open Go.Lib (decDigits)
theorem endL_at (s : ByteArray) (k : Nat) (h : k < s.size) (o : Int) : endL o (s.data.toList.drop k) =
  if (if s[k] = 60 then o + 1 else if s[k] = 62 then o - 1 else o) = 0 ∧ (s[k] = 110 ∨ s[k] = 62) then 1 else 1 + endL (if s[k] = 60 then o + 1 else if s[k] = 62 then o - 1 else o) (s.data.toList.drop (k + 1)) := by
 rw [drop_cons s k h]; rfl
theorem bs_beq0 (l m : List UInt8) : ((bs l).toList == m) = (l == m) := by rw [Lib.toList_data]; rfl
theorem beq_of (a b : UInt8) : ((a.toNat : Int) == (b.toNat : Int)) = decide (a = b) := by rw [byte_eq]; rfl
set_option maxHeartbeats 800000 in
theorem end_any (s : ByteArray) (a : Nat) (w : World) (hs : s.size ≤ 100000) (ha : a ≤ s.size) :
  Calls Tryz.prog 186 #[.string s, .int .i64 a] w fun e w' => e = .returned (.int .i64 (a + endL 0 (s.data.toList.drop a) : Nat)) ∧ w' = w := by
 go_enter Tryz.func186, Tryz.ntmps186
 go_wp2
 go_loop [5, 6] (fun o i => ∃ (k : Nat) (q : Int), a ≤ k ∧ k ≤ s.size ∧ i = .int .i64 k ∧ o = .int .i64 q ∧ -(k : Int) ≤ q ∧ q ≤ k ∧ a + endL 0 (s.data.toList.drop a) = k + endL q (s.data.toList.drop k)) (fun _ i => s.size - (intOf i).toNat)
 case atStart => exact ⟨a, 0, by omega, ha, rfl, rfl, by omega, by omega, rfl⟩
 case round =>
  obtain ⟨k, q, hk0, hk, rfl, rfl, hq1, hq2, hall⟩ := hrel
  have HA : Hid _ := hall
  clear hall
  by_cases hlt : k < s.size
  ·have hst := endL_at s k hlt q
   have HS : Hid _ := hst
   have b60 : ((s[k].toNat : Int) == 60) = decide (s[k] = 60) := beq_of s[k] 60
   have b62 : ((s[k].toNat : Int) == 62) = decide (s[k] = 62) := beq_of s[k] 62
   have b110 : ((s[k].toNat : Int) == 110) = decide (s[k] = 110) := beq_of s[k] 110
   clear hst
   by_cases h1 : s[k] = 60
   ·have e62 : ¬ s[k] = 62 := by rw [h1]; decide
    have e110 : ¬ s[k] = 110 := by rw [h1]; decide
    rw [decide_eq_true h1] at b60
    rw [decide_eq_false e62] at b62
    rw [decide_eq_false e110] at b110
    have HS2 : Hid (endL q (s.data.toList.drop k) = 1 + endL (q + 1) (s.data.toList.drop (k + 1))) := by
     have := HS.out; rw [if_pos h1, if_neg (by rintro ⟨_, e | e⟩; exact e110 e; exact e62 e)] at this; exact this
    clear h1 e62 e110 HS
    go_wp2
    all_goals
     go_round
     case rel => exact ⟨k + 1, q + 1, by omega, by omega, by go_num, by go_num, by omega, by omega, by rw [HA.out, HS2.out]; omega⟩
     case measure => simp [intOf]; omega
   ·rw [decide_eq_false h1] at b60
    by_cases h2 : s[k] = 62
    ·have e110 : ¬ s[k] = 110 := by rw [h2]; decide
     rw [decide_eq_true h2] at b62
     rw [decide_eq_false e110] at b110
     by_cases hq : q = 1
     ·subst hq
      have HS2 : Hid (endL 1 (s.data.toList.drop k) = 1) := by
       have := HS.out; rw [if_neg h1, if_pos h2, if_pos ⟨by omega, Or.inr h2⟩] at this; exact this
      clear h1 h2 e110 HS
      go_wp2
      go_ret
      exact ⟨ret_int (by have h := HA.out; rw [HS2.out] at h; omega), rfl⟩
     ·have HS2 : Hid (endL q (s.data.toList.drop k) = 1 + endL (q - 1) (s.data.toList.drop (k + 1))) := by
       have := HS.out; rw [if_neg h1, if_pos h2, if_neg (by omega)] at this; exact this
      have hq' : (q - 1 == 0) = false := by rw [beq_eq_false_iff_ne]; omega
      clear h1 h2 e110 HS
      go_wp2
      all_goals
       go_round
       case rel => exact ⟨k + 1, q - 1, by omega, by omega, by go_num, by go_num, by omega, by omega, by rw [HA.out, HS2.out]; omega⟩
       case measure => simp [intOf]; omega
    ·rw [decide_eq_false h2] at b62
     by_cases h3 : s[k] = 110
     ·rw [decide_eq_true h3] at b110
      by_cases hq : q = 0
      ·subst hq
       have HS2 : Hid (endL 0 (s.data.toList.drop k) = 1) := by
        have := HS.out; rw [if_neg h1, if_neg h2, if_pos ⟨rfl, Or.inl h3⟩] at this; exact this
       clear h1 h2 h3 HS
       go_wp2
       go_ret
       exact ⟨ret_int (by have h := HA.out; rw [HS2.out] at h; omega), rfl⟩
      ·have HS2 : Hid (endL q (s.data.toList.drop k) = 1 + endL q (s.data.toList.drop (k + 1))) := by
        have := HS.out; rw [if_neg h1, if_neg h2, if_neg (by omega)] at this; exact this
       have hq' : (q == 0) = false := by rw [beq_eq_false_iff_ne]; omega
       clear h1 h2 h3 HS
       go_wp2
       all_goals
        go_round
        case rel => exact ⟨k + 1, q, by omega, by omega, by go_num, by go_num, by omega, by omega, by rw [HA.out, HS2.out]; omega⟩
        case measure => simp [intOf]; omega
     ·rw [decide_eq_false h3] at b110
      have HS2 : Hid (endL q (s.data.toList.drop k) = 1 + endL q (s.data.toList.drop (k + 1))) := by
       have := HS.out; rw [if_neg h1, if_neg h2, if_neg (by rintro ⟨_, e | e⟩; exact h3 e; exact h2 e)] at this; exact this
      clear h1 h2 h3 HS
      go_wp2
      all_goals
       go_round
       case rel => exact ⟨k + 1, q, by omega, by omega, by go_num, by go_num, by omega, by omega, by rw [HA.out, HS2.out]; omega⟩
       case measure => simp [intOf]; omega
  ·go_wp2
   go_ret
   exact ⟨ret_int (by have h := HA.out; rw [drop_end s k (by omega)] at h; simp only [endL] at h; omega), rfl⟩
theorem ext_bs (s : ByteArray) (a b : Nat) (l : List UInt8) (h : (s.data.toList.drop a).take (b - a) = l) : s.extract a b = bs l := bs_eq (by rw [Lib.extract_data, h])
theorem dec_len (r : Nat) (h : r < 1000) : (decDigits r).length ≤ 3 := by
 rw [decDigits]; split
 ·simp
 ·rw [decDigits]; split
  ·simp
  ·rw [decDigits]; split
   ·simp
   ·omega
theorem bs_get (l : List UInt8) (k : Nat) (h : k < (bs l).size) : (bs l)[k] = l[k]'(by rw [bs_size] at h; exact h) := rfl
set_option maxHeartbeats 800000 in
theorem halves_n (w : World) : Calls Tryz.prog 171 #[.string (bs Ty.n.txt)] w fun e w' => e = .returned (.tuple #[.string (bs []), .string (bs []), .bool false]) ∧ w' = w := by
 have hse : ((bs Ty.n.txt).toList == []) = false := by rw [bs_beq0]; decide
 go_enter Tryz.func171, Tryz.ntmps171
 go_wp2
 go_ret3
 exact ⟨rfl, rfl⟩
theorem txt_colon (r : Nat) (a b : Ty) (k : Nat) (hk : k < (bs (Ty.p r a b).txt).size) (h1 : 1 ≤ k) (h2 : k ≤ (decDigits r).length) : (bs (Ty.p r a b).txt)[k] ≠ 58 := by
 rw [bs_get]
 simp only [Ty.txt]
 obtain ⟨j, rfl⟩ : ∃ j, k = j + 1 := ⟨k - 1, by omega⟩
 rw [List.getElem_cons_succ, List.getElem_append_left (by omega)]
 exact (digit_ne (dec_digit r _ (List.getElem_mem _))).1
theorem txt_colon_at (r : Nat) (a b : Ty) (hk : (decDigits r).length + 1 < (bs (Ty.p r a b).txt).size) : (bs (Ty.p r a b).txt)[(decDigits r).length + 1] = 58 := by
 rw [bs_get]
 simp only [Ty.txt]
 rw [List.getElem_cons_succ, List.getElem_append_right (by omega)]
 simp
theorem txt_len (r : Nat) (a b : Ty) : (Ty.p r a b).txt.length = (decDigits r).length + a.txt.length + b.txt.length + 3 := by
 simp [Ty.txt]; omega
theorem txt_drop (r : Nat) (a b : Ty) : (Ty.p r a b).txt.drop ((decDigits r).length + 2) = a.txt ++ (b.txt ++ [62]) := by
 simp only [Ty.txt]
 rw [List.drop_succ_cons, List.drop_append]
 simp
set_option maxHeartbeats 800000 in
theorem halves_core (S xa xb : ByteArray) (D A : Nat) (w : World) (hs : S.size ≤ 100000) (hD : D + 2 + A + 2 ≤ S.size) (hem : S.toList.isEmpty = false)
  (h0 : (((S[0]'(by omega)).toNat : Int) != 60) = false) (hcol : Hid (∀ (k : Nat) (hk : k < S.size), 1 ≤ k → k ≤ D → S[k] ≠ 58)) (hcat : Hid (S[D + 1]'(by omega) = 58))
  (hend : ∀ w, Calls Tryz.prog 186 #[.string S, .int .i64 ((D : Int) + 1 + 1)] w fun e w' => e = .returned (.int .i64 (D + 2 + A : Nat)) ∧ w' = w)
  (hxa : Hid (S.extract (D + 2) (D + 2 + A) = xa)) (hxb : Hid (S.extract (D + 2 + A) (S.size - 1) = xb)) :
  Calls Tryz.prog 171 #[.string S] w fun e w' => e = .returned (.tuple #[.string xa, .string xb, .bool true]) ∧ ∃ n, w' = w.drewN n := by
 go_enter Tryz.func171, Tryz.ntmps171
 go_wp2
 go_loop [5] (fun i => ∃ k : Nat, 1 ≤ k ∧ k ≤ D + 1 ∧ i = .int .i64 k) (fun i => D + 1 - (intOf i).toNat)
 case atStart => exact ⟨1, by omega, by omega, rfl⟩
 case round =>
  obtain ⟨k, hk1, hk2, rfl⟩ := hrel
  by_cases hkd : k ≤ D
  ·have hne := hcol.out k (by omega) hk1 hkd
   have hne' : (((S[k]'(by omega)).toNat : Int) != 58) = true := by
    have : (((S[k]'(by omega)).toNat : Int) != 58) = ((S[k]'(by omega)) != 58) := byte_ne _ 58
    rw [this]; simpa using hne
   clear hne
   go_wp2
   go_round
   case rel => exact ⟨k + 1, by omega, by omega, by go_num⟩
   case measure => simp [intOf]; omega
  ·have hkd' : k = D + 1 := by omega
   subst hkd'
   have heq' : (((S[D + 1]'(by omega)).toNat : Int) != 58) = false := by
    rw [hcat.out]; rfl
   go_wp2_with (go_at_call 186; refine (hend _).mono ?_; rintro e w' ⟨rfl, rfl⟩)
   go_quiet (fail)
   go_wp2
   go_ret3
   exact ⟨by rw [← hxa.out, ← hxb.out]; rfl, _, rfl⟩
theorem halves_p (r : Nat) (a b : Ty) (w : World) (hs : (Ty.p r a b).txt.length ≤ 100000) : Calls Tryz.prog 171 #[.string (bs (Ty.p r a b).txt)] w fun e w' => e = .returned (.tuple #[.string (bs a.txt), .string (bs b.txt), .bool true]) ∧ ∃ n, w' = w.drewN n := by
 have hlen := txt_len r a b
 have hdr := txt_drop r a b
 have hpa : 0 < a.txt.length := List.length_pos_iff.2 (txt_ne a)
 have hpb : 0 < b.txt.length := List.length_pos_iff.2 (txt_ne b)
 have hsz : (bs (Ty.p r a b).txt).size = (Ty.p r a b).txt.length := bs_size _
 refine halves_core (bs (Ty.p r a b).txt) (bs a.txt) (bs b.txt) (decDigits r).length a.txt.length w (by omega) (by omega) (by rw [Lib.toList_data]; rfl) rfl (txt_colon r a b) (txt_colon_at r a b (by omega)) ?_ ?_ ?_
 ·intro w
  have hend := end_any (bs (Ty.p r a b).txt) ((decDigits r).length + 2) w (by omega) (by omega)
  rw [bs_toList, hdr, endL_txt] at hend
  have ec : (((decDigits r).length + 2 : Nat) : Int) = ((decDigits r).length : Int) + 1 + 1 := by omega
  rw [ec] at hend
  exact hend
 ·exact ext_bs _ _ _ _ (by rw [bs_toList, hdr]; simp)
 ·refine ext_bs _ _ _ _ ?_
  rw [bs_toList, ← List.drop_drop, hdr, List.drop_left' rfl, hsz, hlen, List.take_append_of_le_length (by omega), List.take_of_length_le (by omega)]
theorem bs_app (l m : List UInt8) : bs l ++ bs m = bs (l ++ m) := by
 apply bs_eq; simp [bs]
theorem plain_len (t : Ty) : t.plain.length ≤ t.txt.length := by
 induction t with
 | n => simp [Ty.plain, Ty.txt]
 | p r a b iha ihb => simp [Ty.plain, Ty.txt]; omega
set_option maxHeartbeats 800000 in
theorem plain_any (t : Ty) : ∀ (w : World), t.txt.length ≤ 100000 → Calls Tryz.prog 173 #[.string (bs t.txt)] w fun e w' => e = .returned (.string (bs t.plain)) ∧ ∃ n, w' = w.drewN n := by
 induction t with
 | n =>
  intro w hl
  have hse : ((bs Ty.n.txt).toList == [110]) = true := by rw [bs_beq0]; decide
  go_enter Tryz.func173, Tryz.ntmps173
  go_wp2_with fail
  go_ret
  exact ⟨rfl, 0, rfl⟩
 | p r a b iha ihb =>
  intro w hl
  have hlen := txt_len r a b
  have hse : ((bs (Ty.p r a b).txt).toList == [110]) = false := by rw [bs_beq0]; simp [Ty.txt]
  have hh := fun w => halves_p r a b w hl
  have la := plain_len a
  have lb := plain_len b
  have z1 : (ByteArray.mk #[60]).size = 1 := rfl
  have z2 : (bs a.plain).size ≤ 100000 := by rw [bs_size]; omega
  have z3 : (ByteArray.mk #[60] ++ bs a.plain).size ≤ 100001 := by rw [ByteArray.size_append, z1]; omega
  have z4 : (bs b.plain).size ≤ 100000 := by rw [bs_size]; omega
  have z5 : (ByteArray.mk #[60] ++ bs a.plain ++ bs b.plain).size ≤ 200001 := by rw [ByteArray.size_append]; omega
  have z6 : (ByteArray.mk #[62]).size = 1 := rfl
  go_enter Tryz.func173, Tryz.ntmps173
  go_wp2_with (first
   | (go_at_call 171; refine (hh _).mono ?_; rintro e w1 ⟨rfl, n1, rfl⟩)
   | (go_at_call_of 173 (Value.string (bs a.txt)); refine (iha _ (by omega)).mono ?_; rintro e w2 ⟨rfl, n2, rfl⟩)
   | (go_at_call_of 173 (Value.string (bs b.txt)); refine (ihb _ (by omega)).mono ?_; rintro e w3 ⟨rfl, n3, rfl⟩))
  go_ret
  refine ⟨?_, _, rfl⟩
  have e : (ByteArray.mk #[60] ++ bs a.plain ++ bs b.plain ++ ByteArray.mk #[62]) = bs (Ty.p r a b).plain := by
   rw [show ByteArray.mk #[60] = bs [60] from rfl, show ByteArray.mk #[62] = bs [62] from rfl, bs_app, bs_app, bs_app]
   simp [Ty.plain]
  rw [← e]; rfl
def dtab : ByteArray := ⟨#[48, 49, 50, 51, 52, 53, 54, 55, 56, 57, 97, 98, 99, 100, 101, 102, 103, 104, 105, 106, 107, 108, 109, 110, 111, 112, 113, 114, 115, 116, 117, 118, 119, 120, 121, 122]⟩
def stab : ByteArray := ⟨((List.range 100).flatMap fun i => [UInt8.ofNat (48 + i / 10), UInt8.ofNat (48 + i % 10)]).toArray⟩
theorem tab1 (i : Nat) (h : i < 10) : dtab.extract i (i + 1) = bs [UInt8.ofNat (48 + i)] := by
 have : ∀ i : Fin 10, dtab.extract i.val (i.val + 1) = bs [UInt8.ofNat (48 + i.val)] := by decide +kernel
 exact this ⟨i, h⟩
theorem tab2 (i : Nat) (h : i < 100) : stab.extract (i * 2) (i * 2 + 2) = bs [UInt8.ofNat (48 + i / 10), UInt8.ofNat (48 + i % 10)] := by
 have : ∀ i : Fin 100, stab.extract (i.val * 2) (i.val * 2 + 2) = bs [UInt8.ofNat (48 + i.val / 10), UInt8.ofNat (48 + i.val % 10)] := by decide +kernel
 exact this ⟨i, h⟩
set_option maxRecDepth 100000 in
set_option maxHeartbeats 800000 in
theorem itoa_small (i : Nat) (w : World) (hi : i < 100) : Calls Tryz.prog 49 #[.int .i64 i] w fun e w' => e = .returned (.string (bs (decDigits i))) ∧ w' = w := by
 go_enter Tryz.func49, Tryz.ntmps49
 go_wp2
 all_goals go_ret
 ·refine ⟨?_, rfl⟩
  rw [Lib.decDigits_one (by omega), ← tab1 i (by omega)]
  rfl
 ·refine ⟨?_, rfl⟩
  rw [Lib.decDigits_two (by omega) hi, ← tab2 i hi]
  rfl
def ItFor (w0 : World) (cls : List Nat) : Prop := (∀ x ∈ cls, x < 1000) ∧ ∀ x ∈ cls, ∀ w, Below w0.heap.size w0 w → Calls Tryz.prog 49 #[.int .i64 (x : Nat)] w fun e w' => e = .returned (.string (bs (decDigits x))) ∧ Below w.heap.size w w'
theorem itFor_small (w0 : World) (cls : List Nat) (h : ∀ x ∈ cls, x < 100) : ItFor w0 cls :=
 ⟨fun x hx => by have := h x hx; omega, fun x hx w _ => (itoa_small x w (h x hx)).mono (by rintro e w' ⟨rfl, rfl⟩; exact ⟨rfl, Below.refl _ _⟩)⟩
def tyCells (cv nv tv ov : Value) (e p : Nat) : Array Value := #[cv, nv, tv, ov, .int .i64 e, .int .i64 p]
set_option maxHeartbeats 1000000 in
theorem err_any (w : World) (yb xb : Nat) (cv nv tv ov kv : Value) (e p c : Nat) (op nm : List UInt8) (px : Nat) (n : Int) (id last site : Nat) (hne : xb ≠ yb)
  (hy : w.heap[yb]? = some (.cells (tyCells cv nv tv ov e p) 115 (0, 0)))
  (hx : w.heap[xb]? = some (.cells (exCells op px nm n kv id last site) 82 (0, 0))) :
  Calls Tryz.prog 115 #[ptr yb, .int .i64 c, ptr xb] w fun v w' => v = .returned (.string (bs [110])) ∧ w.grownBy w' (some yb) ∧
   w'.heap[yb]? = some (.cells (tyCells cv nv tv ov (if e = 0 then c else e) (if e = 0 then px else p)) 115 (0, 0)) := by
 have y4 : w.cell? ⟨yb, 4, none⟩ = some (.int .i64 e) := by rw [blk_cell hy]; rfl
 have y5 : w.cell? ⟨yb, 5, none⟩ = some (.int .i64 p) := by rw [blk_cell hy]; rfl
 have f4 : w.frozen? ⟨yb, 4, none⟩ = false := blk_free hy 4
 have f5 : w.frozen? ⟨yb, 5, none⟩ = false := blk_free hy 5
 have x1 : w.cell? ⟨xb, 1, none⟩ = some (.int .i64 px) := by rw [blk_cell hx]; rfl
 have hne' : yb ≠ xb := fun h => hne h.symm
 have HY : Hid _ := hy
 clear hy hx
 show Calls _ _ #[Value.pointer (some ⟨yb, 0, none⟩), _, Value.pointer (some ⟨xb, 0, none⟩)] w _
 by_cases he : e = 0
 ·subst he
  go_enter Tryz.func115, Tryz.ntmps115
  go_wp2
  go_ret
  refine ⟨rfl, gr_trans (gr_set w ⟨yb, 4, none⟩ _) (gr_set _ ⟨yb, 5, none⟩ _), ?_⟩
  exact blk_set (blk_set HY.out 4 _) 5 _
 ·have he' : ((e : Int) == 0) = false := by rw [beq_eq_false_iff_ne]; omega
  have HE : Hid (¬ e = 0) := he
  clear he
  go_enter Tryz.func115, Tryz.ntmps115
  go_wp2
  go_ret
  refine ⟨rfl, World.grownBy.refl _ _, ?_⟩
  first | exact HY.out | (rw [if_neg HE.out, if_neg HE.out]; exact HY.out)
set_option maxHeartbeats 1000000 in
theorem pairOf_any (r : Nat) (a b : Ty) (w : World) (hr : r < 1000) (hit : Calls Tryz.prog 49 #[.int .i64 r] w fun e w' => e = .returned (.string (bs (decDigits r))) ∧ Below w.heap.size w w') (hs : a.txt.length + b.txt.length ≤ 90000) : Calls Tryz.prog 172 #[.int .i64 r, .string (bs a.txt), .string (bs b.txt)] w fun e w' => e = .returned (.string (bs (Ty.p r a b).txt)) ∧ Below w.heap.size w w' := by
 have hdl := dec_len r (by omega)
 have z1 : (ByteArray.mk #[60]).size = 1 := rfl
 have z0 : (bs (decDigits r)).size ≤ 3 := by rw [bs_size]; exact hdl
 have z2 : (ByteArray.mk #[60] ++ bs (decDigits r)).size ≤ 4 := by rw [ByteArray.size_append, z1]; omega
 have z3 : (ByteArray.mk #[58]).size = 1 := rfl
 have z4 : (ByteArray.mk #[60] ++ bs (decDigits r) ++ ByteArray.mk #[58]).size ≤ 5 := by rw [ByteArray.size_append, z3]; omega
 have z5 : (bs a.txt).size ≤ 90000 := by rw [bs_size]; omega
 have z6 : (ByteArray.mk #[60] ++ bs (decDigits r) ++ ByteArray.mk #[58] ++ bs a.txt).size ≤ 90005 := by rw [ByteArray.size_append]; omega
 have z7 : (bs b.txt).size ≤ 90000 := by rw [bs_size]; omega
 have z8 : (ByteArray.mk #[60] ++ bs (decDigits r) ++ ByteArray.mk #[58] ++ bs a.txt ++ bs b.txt).size ≤ 180005 := by rw [ByteArray.size_append]; omega
 have z9 : (ByteArray.mk #[62]).size = 1 := rfl
 go_enter Tryz.func172, Tryz.ntmps172
 go_wp2_with (go_at_call 49; refine hit.mono ?_; rintro e w' ⟨rfl, hb⟩)
 go_ret
 refine ⟨?_, hb⟩
 have e : (ByteArray.mk #[60] ++ bs (decDigits r) ++ ByteArray.mk #[58] ++ bs a.txt ++ bs b.txt ++ ByteArray.mk #[62]) = bs (Ty.p r a b).txt := by
  rw [show ByteArray.mk #[60] = bs [60] from rfl, show ByteArray.mk #[58] = bs [58] from rfl, show ByteArray.mk #[62] = bs [62] from rfl, bs_app, bs_app, bs_app, bs_app, bs_app]
  simp [Ty.txt]
 rw [← e]; rfl
theorem grew_of {w w' : World} (h : Below w.heap.size w w') (row : Option Nat) : w.grownBy w' row := grown_of_below h row
theorem below_box (w : World) (o : Obj) (n : Nat) : Below w.heap.size w ((w.alloc o).drewN n) := ⟨rfl, rfl, rfl, by simp, fun k hk => Below.heap_alloc _ _ _ hk⟩
theorem made_ok {w : World} {yb : Nat} {o : Obj} {n : Nat} {c : Obj} (hy : w.heap[yb]? = some c) : w.grownBy ((w.alloc o).drewN n) (some yb) ∧ ((w.alloc o).drewN n).heap[yb]? = some c :=
 ⟨grew_of (below_box w o n) _, by show (w.alloc o).heap[yb]? = _; exact blk_alloc _ hy⟩
set_option maxRecDepth 100000 in
set_option maxHeartbeats 1000000 in
theorem made_fst_ok (w : World) (yb xb : Nat) (cv nv tv ov kv : Value) (p : Nat) (nm : List UInt8) (px : Nat) (n : Int) (id last site : Nat)
  (hy : w.heap[yb]? = some (.cells (tyCells cv nv tv ov 0 p) 115 (0, 0)))
  (hx : w.heap[xb]? = some (.cells (exCells Kw.fst.bytes px nm n kv id last site) 82 (0, 0)))
  (r : Nat) (a b : Ty) (hs : (Ty.p r a b).txt.length ≤ 100000) :
  Calls Tryz.prog 144 #[ptr yb, ptr xb, .agg #[.string (bs (Ty.p r a b).txt), .string (bs []), .string (bs [])]] w fun v w' => v = .returned (.string (bs a.txt)) ∧ w.grownBy w' (some yb) ∧ w'.heap[yb]? = some (.cells (tyCells cv nv tv ov 0 p) 115 (0, 0)) := by
 have x0 : w.cell? ⟨xb, 0, none⟩ = some (.string (bs Kw.fst.bytes)) := by rw [blk_cell hx]; rfl
 have hxb := blk_lt hx
 have HY : Hid _ := hy
 have HX : Hid _ := hx
 have q0 : ((bs Kw.fst.bytes).toList == [110, 101, 119]) = false := by rw [bs_beq0]; decide
 have q1 : ((bs Kw.fst.bytes).toList == [112, 97, 105, 114]) = false := by rw [bs_beq0]; decide
 have q2 : ((bs Kw.fst.bytes).toList == [102, 115, 116]) = true := by rw [bs_beq0]; decide
 have hh := fun w => halves_p r a b w hs
 clear hy hx
 show Calls _ _ #[Value.pointer (some ⟨yb, 0, none⟩), Value.pointer (some ⟨xb, 0, none⟩), _] w _
 go_enter Tryz.func144, Tryz.ntmps144
 go_wp2_with (go_at_call 171; refine (hh _).mono ?_; rintro e w1 ⟨rfl, n1, rfl⟩)
 go_ret
 exact ⟨rfl, made_ok HY.out⟩
set_option maxRecDepth 100000 in
set_option maxHeartbeats 1000000 in
theorem made_fst_no (w : World) (yb xb : Nat) (cv nv tv ov kv : Value) (p : Nat) (nm : List UInt8) (px : Nat) (n : Int) (id last site : Nat) (hne : xb ≠ yb)
  (hy : w.heap[yb]? = some (.cells (tyCells cv nv tv ov 0 p) 115 (0, 0)))
  (hx : w.heap[xb]? = some (.cells (exCells Kw.fst.bytes px nm n kv id last site) 82 (0, 0))) :
  Calls Tryz.prog 144 #[ptr yb, ptr xb, .agg #[.string (bs Ty.n.txt), .string (bs []), .string (bs [])]] w fun v w' => v = .returned (.string (bs [110])) ∧ w.grownBy w' (some yb) ∧ w'.heap[yb]? = some (.cells (tyCells cv nv tv ov 5 px) 115 (0, 0)) := by
 have x0 : w.cell? ⟨xb, 0, none⟩ = some (.string (bs Kw.fst.bytes)) := by rw [blk_cell hx]; rfl
 have hxb := blk_lt hx
 have HY : Hid _ := hy
 have HX : Hid _ := hx
 have q0 : ((bs Kw.fst.bytes).toList == [110, 101, 119]) = false := by rw [bs_beq0]; decide
 have q1 : ((bs Kw.fst.bytes).toList == [112, 97, 105, 114]) = false := by rw [bs_beq0]; decide
 have q2 : ((bs Kw.fst.bytes).toList == [102, 115, 116]) = true := by rw [bs_beq0]; decide
 have hh := fun w => halves_n w
 have her := fun (o : Obj) => err_any (w.alloc o) yb xb cv nv tv ov kv 0 p 5 _ nm px n id last site hne (blk_alloc o hy) (blk_alloc o hx)
 unfold ptr at her
 clear hy hx
 show Calls _ _ #[Value.pointer (some ⟨yb, 0, none⟩), Value.pointer (some ⟨xb, 0, none⟩), _] w _
 go_enter Tryz.func144, Tryz.ntmps144
 go_wp2_with (first
  | (go_at_call 171; refine (hh _).mono ?_; rintro e w1 ⟨rfl, rfl⟩)
  | (go_at_call 115; refine (her _).mono ?_; rintro e w1 ⟨rfl, hg1, hy1⟩))
 go_ret
 exact ⟨rfl, gr_trans (gr_alloc _ _ _) hg1, hy1⟩
set_option maxRecDepth 100000 in
set_option maxHeartbeats 1000000 in
theorem made_snd_ok (w : World) (yb xb : Nat) (cv nv tv ov kv : Value) (p : Nat) (nm : List UInt8) (px : Nat) (n : Int) (id last site : Nat)
  (hy : w.heap[yb]? = some (.cells (tyCells cv nv tv ov 0 p) 115 (0, 0)))
  (hx : w.heap[xb]? = some (.cells (exCells Kw.snd.bytes px nm n kv id last site) 82 (0, 0)))
  (r : Nat) (a b : Ty) (hs : (Ty.p r a b).txt.length ≤ 100000) :
  Calls Tryz.prog 144 #[ptr yb, ptr xb, .agg #[.string (bs (Ty.p r a b).txt), .string (bs []), .string (bs [])]] w fun v w' => v = .returned (.string (bs b.txt)) ∧ w.grownBy w' (some yb) ∧ w'.heap[yb]? = some (.cells (tyCells cv nv tv ov 0 p) 115 (0, 0)) := by
 have x0 : w.cell? ⟨xb, 0, none⟩ = some (.string (bs Kw.snd.bytes)) := by rw [blk_cell hx]; rfl
 have hxb := blk_lt hx
 have HY : Hid _ := hy
 have HX : Hid _ := hx
 have q0 : ((bs Kw.snd.bytes).toList == [110, 101, 119]) = false := by rw [bs_beq0]; decide
 have q1 : ((bs Kw.snd.bytes).toList == [112, 97, 105, 114]) = false := by rw [bs_beq0]; decide
 have q2 : ((bs Kw.snd.bytes).toList == [102, 115, 116]) = false := by rw [bs_beq0]; decide
 have q3 : ((bs Kw.snd.bytes).toList == [115, 110, 100]) = true := by rw [bs_beq0]; decide
 have hh := fun w => halves_p r a b w hs
 clear hy hx
 show Calls _ _ #[Value.pointer (some ⟨yb, 0, none⟩), Value.pointer (some ⟨xb, 0, none⟩), _] w _
 go_enter Tryz.func144, Tryz.ntmps144
 go_wp2_with (go_at_call 171; refine (hh _).mono ?_; rintro e w1 ⟨rfl, n1, rfl⟩)
 go_ret
 exact ⟨rfl, made_ok HY.out⟩
set_option maxRecDepth 100000 in
set_option maxHeartbeats 1000000 in
theorem made_snd_no (w : World) (yb xb : Nat) (cv nv tv ov kv : Value) (p : Nat) (nm : List UInt8) (px : Nat) (n : Int) (id last site : Nat) (hne : xb ≠ yb)
  (hy : w.heap[yb]? = some (.cells (tyCells cv nv tv ov 0 p) 115 (0, 0)))
  (hx : w.heap[xb]? = some (.cells (exCells Kw.snd.bytes px nm n kv id last site) 82 (0, 0))) :
  Calls Tryz.prog 144 #[ptr yb, ptr xb, .agg #[.string (bs Ty.n.txt), .string (bs []), .string (bs [])]] w fun v w' => v = .returned (.string (bs [110])) ∧ w.grownBy w' (some yb) ∧ w'.heap[yb]? = some (.cells (tyCells cv nv tv ov 5 px) 115 (0, 0)) := by
 have x0 : w.cell? ⟨xb, 0, none⟩ = some (.string (bs Kw.snd.bytes)) := by rw [blk_cell hx]; rfl
 have hxb := blk_lt hx
 have HY : Hid _ := hy
 have HX : Hid _ := hx
 have q0 : ((bs Kw.snd.bytes).toList == [110, 101, 119]) = false := by rw [bs_beq0]; decide
 have q1 : ((bs Kw.snd.bytes).toList == [112, 97, 105, 114]) = false := by rw [bs_beq0]; decide
 have q2 : ((bs Kw.snd.bytes).toList == [102, 115, 116]) = false := by rw [bs_beq0]; decide
 have q3 : ((bs Kw.snd.bytes).toList == [115, 110, 100]) = true := by rw [bs_beq0]; decide
 have hh := fun w => halves_n w
 have her := fun (o : Obj) => err_any (w.alloc o) yb xb cv nv tv ov kv 0 p 5 _ nm px n id last site hne (blk_alloc o hy) (blk_alloc o hx)
 unfold ptr at her
 clear hy hx
 show Calls _ _ #[Value.pointer (some ⟨yb, 0, none⟩), Value.pointer (some ⟨xb, 0, none⟩), _] w _
 go_enter Tryz.func144, Tryz.ntmps144
 go_wp2_with (first
  | (go_at_call 171; refine (hh _).mono ?_; rintro e w1 ⟨rfl, rfl⟩)
  | (go_at_call 115; refine (her _).mono ?_; rintro e w1 ⟨rfl, hg1, hy1⟩))
 go_ret
 exact ⟨rfl, gr_trans (gr_alloc _ _ _) hg1, hy1⟩
set_option maxRecDepth 100000 in
set_option maxHeartbeats 1000000 in
theorem made_add_ok (w : World) (yb xb : Nat) (cv nv tv ov kv : Value) (p : Nat) (nm : List UInt8) (px : Nat) (n : Int) (id last site : Nat)
  (hy : w.heap[yb]? = some (.cells (tyCells cv nv tv ov 0 p) 115 (0, 0)))
  (hx : w.heap[xb]? = some (.cells (exCells Kw.add.bytes px nm n kv id last site) 82 (0, 0))) :
  Calls Tryz.prog 144 #[ptr yb, ptr xb, .agg #[.string (bs Ty.n.txt), .string (bs Ty.n.txt), .string (bs [])]] w fun v w' => v = .returned (.string (bs [110])) ∧ w.grownBy w' (some yb) ∧ w'.heap[yb]? = some (.cells (tyCells cv nv tv ov 0 p) 115 (0, 0)) := by
 have x0 : w.cell? ⟨xb, 0, none⟩ = some (.string (bs Kw.add.bytes)) := by rw [blk_cell hx]; rfl
 have hxb := blk_lt hx
 have HY : Hid _ := hy
 have HX : Hid _ := hx
 have q0 : ((bs Kw.add.bytes).toList == [110, 101, 119]) = false := by rw [bs_beq0]; decide
 have q1 : ((bs Kw.add.bytes).toList == [112, 97, 105, 114]) = false := by rw [bs_beq0]; decide
 have q2 : ((bs Kw.add.bytes).toList == [102, 115, 116]) = false := by rw [bs_beq0]; decide
 have q3 : ((bs Kw.add.bytes).toList == [115, 110, 100]) = false := by rw [bs_beq0]; decide
 have q4 : ((bs Kw.add.bytes).toList == [105, 102]) = false := by rw [bs_beq0]; decide
 have q5 : ((bs Kw.add.bytes).toList == [108, 111, 111, 112]) = false := by rw [bs_beq0]; decide
 have k0 : ((bs Ty.n.txt).toList == [110]) = true := by rw [bs_beq0]; decide
 have k1 : ((bs Ty.n.txt).toList == [110]) = true := by rw [bs_beq0]; decide
 have hh := fun w => halves_n w
 clear hy hx
 show Calls _ _ #[Value.pointer (some ⟨yb, 0, none⟩), Value.pointer (some ⟨xb, 0, none⟩), _] w _
 go_enter Tryz.func144, Tryz.ntmps144
 go_wp2_with (go_at_call 171; refine (hh _).mono ?_; rintro e w1 ⟨rfl, rfl⟩)
 go_ret
 exact ⟨rfl, made_ok (n := 0) HY.out⟩
set_option maxRecDepth 100000 in
set_option maxHeartbeats 1000000 in
theorem made_add_p (w : World) (yb xb : Nat) (cv nv tv ov kv : Value) (p : Nat) (nm : List UInt8) (px : Nat) (n : Int) (id last site : Nat) (hne : xb ≠ yb)
  (hy : w.heap[yb]? = some (.cells (tyCells cv nv tv ov 0 p) 115 (0, 0)))
  (hx : w.heap[xb]? = some (.cells (exCells Kw.add.bytes px nm n kv id last site) 82 (0, 0)))
  (r : Nat) (a b u : Ty) (hs : (Ty.p r a b).txt.length ≤ 100000) :
  Calls Tryz.prog 144 #[ptr yb, ptr xb, .agg #[.string (bs (Ty.p r a b).txt), .string (bs u.txt), .string (bs [])]] w fun v w' => v = .returned (.string (bs [110])) ∧ w.grownBy w' (some yb) ∧ w'.heap[yb]? = some (.cells (tyCells cv nv tv ov 5 px) 115 (0, 0)) := by
 have x0 : w.cell? ⟨xb, 0, none⟩ = some (.string (bs Kw.add.bytes)) := by rw [blk_cell hx]; rfl
 have hxb := blk_lt hx
 have HY : Hid _ := hy
 have HX : Hid _ := hx
 have q0 : ((bs Kw.add.bytes).toList == [110, 101, 119]) = false := by rw [bs_beq0]; decide
 have q1 : ((bs Kw.add.bytes).toList == [112, 97, 105, 114]) = false := by rw [bs_beq0]; decide
 have q2 : ((bs Kw.add.bytes).toList == [102, 115, 116]) = false := by rw [bs_beq0]; decide
 have q3 : ((bs Kw.add.bytes).toList == [115, 110, 100]) = false := by rw [bs_beq0]; decide
 have q4 : ((bs Kw.add.bytes).toList == [105, 102]) = false := by rw [bs_beq0]; decide
 have q5 : ((bs Kw.add.bytes).toList == [108, 111, 111, 112]) = false := by rw [bs_beq0]; decide
 have k0 : ((bs (Ty.p r a b).txt).toList == [110]) = false := by rw [bs_beq0]; simp [Ty.txt]
 have hh := fun w => halves_p r a b w hs
 have her := fun (o : Obj) (m : Nat) => err_any ((w.alloc o).drewN m) yb xb cv nv tv ov kv 0 p 5 _ nm px n id last site hne (blk_alloc o hy) (blk_alloc o hx)
 unfold ptr at her
 clear hy hx
 show Calls _ _ #[Value.pointer (some ⟨yb, 0, none⟩), Value.pointer (some ⟨xb, 0, none⟩), _] w _
 go_enter Tryz.func144, Tryz.ntmps144
 go_wp2_with (first
  | (go_at_call 171; refine (hh _).mono ?_; rintro e w1 ⟨rfl, n1, rfl⟩)
  | (go_at_call 115; refine (her _ _).mono ?_; rintro e w2 ⟨rfl, hg1, hy1⟩))
 go_ret
 exact ⟨rfl, gr_trans (grew_of (below_box _ _ n1) _) hg1, hy1⟩
set_option maxRecDepth 100000 in
set_option maxHeartbeats 1000000 in
theorem made_add_q (w : World) (yb xb : Nat) (cv nv tv ov kv : Value) (p : Nat) (nm : List UInt8) (px : Nat) (n : Int) (id last site : Nat) (hne : xb ≠ yb)
  (hy : w.heap[yb]? = some (.cells (tyCells cv nv tv ov 0 p) 115 (0, 0)))
  (hx : w.heap[xb]? = some (.cells (exCells Kw.add.bytes px nm n kv id last site) 82 (0, 0)))
  (r : Nat) (a b : Ty) :
  Calls Tryz.prog 144 #[ptr yb, ptr xb, .agg #[.string (bs Ty.n.txt), .string (bs (Ty.p r a b).txt), .string (bs [])]] w fun v w' => v = .returned (.string (bs [110])) ∧ w.grownBy w' (some yb) ∧ w'.heap[yb]? = some (.cells (tyCells cv nv tv ov 5 px) 115 (0, 0)) := by
 have x0 : w.cell? ⟨xb, 0, none⟩ = some (.string (bs Kw.add.bytes)) := by rw [blk_cell hx]; rfl
 have hxb := blk_lt hx
 have HY : Hid _ := hy
 have HX : Hid _ := hx
 have q0 : ((bs Kw.add.bytes).toList == [110, 101, 119]) = false := by rw [bs_beq0]; decide
 have q1 : ((bs Kw.add.bytes).toList == [112, 97, 105, 114]) = false := by rw [bs_beq0]; decide
 have q2 : ((bs Kw.add.bytes).toList == [102, 115, 116]) = false := by rw [bs_beq0]; decide
 have q3 : ((bs Kw.add.bytes).toList == [115, 110, 100]) = false := by rw [bs_beq0]; decide
 have q4 : ((bs Kw.add.bytes).toList == [105, 102]) = false := by rw [bs_beq0]; decide
 have q5 : ((bs Kw.add.bytes).toList == [108, 111, 111, 112]) = false := by rw [bs_beq0]; decide
 have k0 : ((bs Ty.n.txt).toList == [110]) = true := by rw [bs_beq0]; decide
 have k1 : ((bs (Ty.p r a b).txt).toList == [110]) = false := by rw [bs_beq0]; simp [Ty.txt]
 have hh := fun w => halves_n w
 have her := fun (o : Obj) => err_any (w.alloc o) yb xb cv nv tv ov kv 0 p 5 _ nm px n id last site hne (blk_alloc o hy) (blk_alloc o hx)
 unfold ptr at her
 clear hy hx
 show Calls _ _ #[Value.pointer (some ⟨yb, 0, none⟩), Value.pointer (some ⟨xb, 0, none⟩), _] w _
 go_enter Tryz.func144, Tryz.ntmps144
 go_wp2_with (first
  | (go_at_call 171; refine (hh _).mono ?_; rintro e w1 ⟨rfl, rfl⟩)
  | (go_at_call 115; refine (her _).mono ?_; rintro e w2 ⟨rfl, hg1, hy1⟩))
 go_ret
 exact ⟨rfl, gr_trans (grew_of (below_box _ _ 0) _) hg1, hy1⟩
set_option maxRecDepth 100000 in
set_option maxHeartbeats 1000000 in
theorem made_sub_ok (w : World) (yb xb : Nat) (cv nv tv ov kv : Value) (p : Nat) (nm : List UInt8) (px : Nat) (n : Int) (id last site : Nat)
  (hy : w.heap[yb]? = some (.cells (tyCells cv nv tv ov 0 p) 115 (0, 0)))
  (hx : w.heap[xb]? = some (.cells (exCells Kw.sub.bytes px nm n kv id last site) 82 (0, 0))) :
  Calls Tryz.prog 144 #[ptr yb, ptr xb, .agg #[.string (bs Ty.n.txt), .string (bs Ty.n.txt), .string (bs [])]] w fun v w' => v = .returned (.string (bs [110])) ∧ w.grownBy w' (some yb) ∧ w'.heap[yb]? = some (.cells (tyCells cv nv tv ov 0 p) 115 (0, 0)) := by
 have x0 : w.cell? ⟨xb, 0, none⟩ = some (.string (bs Kw.sub.bytes)) := by rw [blk_cell hx]; rfl
 have hxb := blk_lt hx
 have HY : Hid _ := hy
 have HX : Hid _ := hx
 have q0 : ((bs Kw.sub.bytes).toList == [110, 101, 119]) = false := by rw [bs_beq0]; decide
 have q1 : ((bs Kw.sub.bytes).toList == [112, 97, 105, 114]) = false := by rw [bs_beq0]; decide
 have q2 : ((bs Kw.sub.bytes).toList == [102, 115, 116]) = false := by rw [bs_beq0]; decide
 have q3 : ((bs Kw.sub.bytes).toList == [115, 110, 100]) = false := by rw [bs_beq0]; decide
 have q4 : ((bs Kw.sub.bytes).toList == [105, 102]) = false := by rw [bs_beq0]; decide
 have q5 : ((bs Kw.sub.bytes).toList == [108, 111, 111, 112]) = false := by rw [bs_beq0]; decide
 have k0 : ((bs Ty.n.txt).toList == [110]) = true := by rw [bs_beq0]; decide
 have k1 : ((bs Ty.n.txt).toList == [110]) = true := by rw [bs_beq0]; decide
 have hh := fun w => halves_n w
 clear hy hx
 show Calls _ _ #[Value.pointer (some ⟨yb, 0, none⟩), Value.pointer (some ⟨xb, 0, none⟩), _] w _
 go_enter Tryz.func144, Tryz.ntmps144
 go_wp2_with (go_at_call 171; refine (hh _).mono ?_; rintro e w1 ⟨rfl, rfl⟩)
 go_ret
 exact ⟨rfl, made_ok (n := 0) HY.out⟩
set_option maxRecDepth 100000 in
set_option maxHeartbeats 1000000 in
theorem made_sub_p (w : World) (yb xb : Nat) (cv nv tv ov kv : Value) (p : Nat) (nm : List UInt8) (px : Nat) (n : Int) (id last site : Nat) (hne : xb ≠ yb)
  (hy : w.heap[yb]? = some (.cells (tyCells cv nv tv ov 0 p) 115 (0, 0)))
  (hx : w.heap[xb]? = some (.cells (exCells Kw.sub.bytes px nm n kv id last site) 82 (0, 0)))
  (r : Nat) (a b u : Ty) (hs : (Ty.p r a b).txt.length ≤ 100000) :
  Calls Tryz.prog 144 #[ptr yb, ptr xb, .agg #[.string (bs (Ty.p r a b).txt), .string (bs u.txt), .string (bs [])]] w fun v w' => v = .returned (.string (bs [110])) ∧ w.grownBy w' (some yb) ∧ w'.heap[yb]? = some (.cells (tyCells cv nv tv ov 5 px) 115 (0, 0)) := by
 have x0 : w.cell? ⟨xb, 0, none⟩ = some (.string (bs Kw.sub.bytes)) := by rw [blk_cell hx]; rfl
 have hxb := blk_lt hx
 have HY : Hid _ := hy
 have HX : Hid _ := hx
 have q0 : ((bs Kw.sub.bytes).toList == [110, 101, 119]) = false := by rw [bs_beq0]; decide
 have q1 : ((bs Kw.sub.bytes).toList == [112, 97, 105, 114]) = false := by rw [bs_beq0]; decide
 have q2 : ((bs Kw.sub.bytes).toList == [102, 115, 116]) = false := by rw [bs_beq0]; decide
 have q3 : ((bs Kw.sub.bytes).toList == [115, 110, 100]) = false := by rw [bs_beq0]; decide
 have q4 : ((bs Kw.sub.bytes).toList == [105, 102]) = false := by rw [bs_beq0]; decide
 have q5 : ((bs Kw.sub.bytes).toList == [108, 111, 111, 112]) = false := by rw [bs_beq0]; decide
 have k0 : ((bs (Ty.p r a b).txt).toList == [110]) = false := by rw [bs_beq0]; simp [Ty.txt]
 have hh := fun w => halves_p r a b w hs
 have her := fun (o : Obj) (m : Nat) => err_any ((w.alloc o).drewN m) yb xb cv nv tv ov kv 0 p 5 _ nm px n id last site hne (blk_alloc o hy) (blk_alloc o hx)
 unfold ptr at her
 clear hy hx
 show Calls _ _ #[Value.pointer (some ⟨yb, 0, none⟩), Value.pointer (some ⟨xb, 0, none⟩), _] w _
 go_enter Tryz.func144, Tryz.ntmps144
 go_wp2_with (first
  | (go_at_call 171; refine (hh _).mono ?_; rintro e w1 ⟨rfl, n1, rfl⟩)
  | (go_at_call 115; refine (her _ _).mono ?_; rintro e w2 ⟨rfl, hg1, hy1⟩))
 go_ret
 exact ⟨rfl, gr_trans (grew_of (below_box _ _ n1) _) hg1, hy1⟩
set_option maxRecDepth 100000 in
set_option maxHeartbeats 1000000 in
theorem made_sub_q (w : World) (yb xb : Nat) (cv nv tv ov kv : Value) (p : Nat) (nm : List UInt8) (px : Nat) (n : Int) (id last site : Nat) (hne : xb ≠ yb)
  (hy : w.heap[yb]? = some (.cells (tyCells cv nv tv ov 0 p) 115 (0, 0)))
  (hx : w.heap[xb]? = some (.cells (exCells Kw.sub.bytes px nm n kv id last site) 82 (0, 0)))
  (r : Nat) (a b : Ty) :
  Calls Tryz.prog 144 #[ptr yb, ptr xb, .agg #[.string (bs Ty.n.txt), .string (bs (Ty.p r a b).txt), .string (bs [])]] w fun v w' => v = .returned (.string (bs [110])) ∧ w.grownBy w' (some yb) ∧ w'.heap[yb]? = some (.cells (tyCells cv nv tv ov 5 px) 115 (0, 0)) := by
 have x0 : w.cell? ⟨xb, 0, none⟩ = some (.string (bs Kw.sub.bytes)) := by rw [blk_cell hx]; rfl
 have hxb := blk_lt hx
 have HY : Hid _ := hy
 have HX : Hid _ := hx
 have q0 : ((bs Kw.sub.bytes).toList == [110, 101, 119]) = false := by rw [bs_beq0]; decide
 have q1 : ((bs Kw.sub.bytes).toList == [112, 97, 105, 114]) = false := by rw [bs_beq0]; decide
 have q2 : ((bs Kw.sub.bytes).toList == [102, 115, 116]) = false := by rw [bs_beq0]; decide
 have q3 : ((bs Kw.sub.bytes).toList == [115, 110, 100]) = false := by rw [bs_beq0]; decide
 have q4 : ((bs Kw.sub.bytes).toList == [105, 102]) = false := by rw [bs_beq0]; decide
 have q5 : ((bs Kw.sub.bytes).toList == [108, 111, 111, 112]) = false := by rw [bs_beq0]; decide
 have k0 : ((bs Ty.n.txt).toList == [110]) = true := by rw [bs_beq0]; decide
 have k1 : ((bs (Ty.p r a b).txt).toList == [110]) = false := by rw [bs_beq0]; simp [Ty.txt]
 have hh := fun w => halves_n w
 have her := fun (o : Obj) => err_any (w.alloc o) yb xb cv nv tv ov kv 0 p 5 _ nm px n id last site hne (blk_alloc o hy) (blk_alloc o hx)
 unfold ptr at her
 clear hy hx
 show Calls _ _ #[Value.pointer (some ⟨yb, 0, none⟩), Value.pointer (some ⟨xb, 0, none⟩), _] w _
 go_enter Tryz.func144, Tryz.ntmps144
 go_wp2_with (first
  | (go_at_call 171; refine (hh _).mono ?_; rintro e w1 ⟨rfl, rfl⟩)
  | (go_at_call 115; refine (her _).mono ?_; rintro e w2 ⟨rfl, hg1, hy1⟩))
 go_ret
 exact ⟨rfl, gr_trans (grew_of (below_box _ _ 0) _) hg1, hy1⟩
set_option maxRecDepth 100000 in
set_option maxHeartbeats 1000000 in
theorem made_less_ok (w : World) (yb xb : Nat) (cv nv tv ov kv : Value) (p : Nat) (nm : List UInt8) (px : Nat) (n : Int) (id last site : Nat)
  (hy : w.heap[yb]? = some (.cells (tyCells cv nv tv ov 0 p) 115 (0, 0)))
  (hx : w.heap[xb]? = some (.cells (exCells Kw.less.bytes px nm n kv id last site) 82 (0, 0))) :
  Calls Tryz.prog 144 #[ptr yb, ptr xb, .agg #[.string (bs Ty.n.txt), .string (bs Ty.n.txt), .string (bs [])]] w fun v w' => v = .returned (.string (bs [110])) ∧ w.grownBy w' (some yb) ∧ w'.heap[yb]? = some (.cells (tyCells cv nv tv ov 0 p) 115 (0, 0)) := by
 have x0 : w.cell? ⟨xb, 0, none⟩ = some (.string (bs Kw.less.bytes)) := by rw [blk_cell hx]; rfl
 have hxb := blk_lt hx
 have HY : Hid _ := hy
 have HX : Hid _ := hx
 have q0 : ((bs Kw.less.bytes).toList == [110, 101, 119]) = false := by rw [bs_beq0]; decide
 have q1 : ((bs Kw.less.bytes).toList == [112, 97, 105, 114]) = false := by rw [bs_beq0]; decide
 have q2 : ((bs Kw.less.bytes).toList == [102, 115, 116]) = false := by rw [bs_beq0]; decide
 have q3 : ((bs Kw.less.bytes).toList == [115, 110, 100]) = false := by rw [bs_beq0]; decide
 have q4 : ((bs Kw.less.bytes).toList == [105, 102]) = false := by rw [bs_beq0]; decide
 have q5 : ((bs Kw.less.bytes).toList == [108, 111, 111, 112]) = false := by rw [bs_beq0]; decide
 have k0 : ((bs Ty.n.txt).toList == [110]) = true := by rw [bs_beq0]; decide
 have k1 : ((bs Ty.n.txt).toList == [110]) = true := by rw [bs_beq0]; decide
 have hh := fun w => halves_n w
 clear hy hx
 show Calls _ _ #[Value.pointer (some ⟨yb, 0, none⟩), Value.pointer (some ⟨xb, 0, none⟩), _] w _
 go_enter Tryz.func144, Tryz.ntmps144
 go_wp2_with (go_at_call 171; refine (hh _).mono ?_; rintro e w1 ⟨rfl, rfl⟩)
 go_ret
 exact ⟨rfl, made_ok (n := 0) HY.out⟩
set_option maxRecDepth 100000 in
set_option maxHeartbeats 1000000 in
theorem made_less_p (w : World) (yb xb : Nat) (cv nv tv ov kv : Value) (p : Nat) (nm : List UInt8) (px : Nat) (n : Int) (id last site : Nat) (hne : xb ≠ yb)
  (hy : w.heap[yb]? = some (.cells (tyCells cv nv tv ov 0 p) 115 (0, 0)))
  (hx : w.heap[xb]? = some (.cells (exCells Kw.less.bytes px nm n kv id last site) 82 (0, 0)))
  (r : Nat) (a b u : Ty) (hs : (Ty.p r a b).txt.length ≤ 100000) :
  Calls Tryz.prog 144 #[ptr yb, ptr xb, .agg #[.string (bs (Ty.p r a b).txt), .string (bs u.txt), .string (bs [])]] w fun v w' => v = .returned (.string (bs [110])) ∧ w.grownBy w' (some yb) ∧ w'.heap[yb]? = some (.cells (tyCells cv nv tv ov 5 px) 115 (0, 0)) := by
 have x0 : w.cell? ⟨xb, 0, none⟩ = some (.string (bs Kw.less.bytes)) := by rw [blk_cell hx]; rfl
 have hxb := blk_lt hx
 have HY : Hid _ := hy
 have HX : Hid _ := hx
 have q0 : ((bs Kw.less.bytes).toList == [110, 101, 119]) = false := by rw [bs_beq0]; decide
 have q1 : ((bs Kw.less.bytes).toList == [112, 97, 105, 114]) = false := by rw [bs_beq0]; decide
 have q2 : ((bs Kw.less.bytes).toList == [102, 115, 116]) = false := by rw [bs_beq0]; decide
 have q3 : ((bs Kw.less.bytes).toList == [115, 110, 100]) = false := by rw [bs_beq0]; decide
 have q4 : ((bs Kw.less.bytes).toList == [105, 102]) = false := by rw [bs_beq0]; decide
 have q5 : ((bs Kw.less.bytes).toList == [108, 111, 111, 112]) = false := by rw [bs_beq0]; decide
 have k0 : ((bs (Ty.p r a b).txt).toList == [110]) = false := by rw [bs_beq0]; simp [Ty.txt]
 have hh := fun w => halves_p r a b w hs
 have her := fun (o : Obj) (m : Nat) => err_any ((w.alloc o).drewN m) yb xb cv nv tv ov kv 0 p 5 _ nm px n id last site hne (blk_alloc o hy) (blk_alloc o hx)
 unfold ptr at her
 clear hy hx
 show Calls _ _ #[Value.pointer (some ⟨yb, 0, none⟩), Value.pointer (some ⟨xb, 0, none⟩), _] w _
 go_enter Tryz.func144, Tryz.ntmps144
 go_wp2_with (first
  | (go_at_call 171; refine (hh _).mono ?_; rintro e w1 ⟨rfl, n1, rfl⟩)
  | (go_at_call 115; refine (her _ _).mono ?_; rintro e w2 ⟨rfl, hg1, hy1⟩))
 go_ret
 exact ⟨rfl, gr_trans (grew_of (below_box _ _ n1) _) hg1, hy1⟩
set_option maxRecDepth 100000 in
set_option maxHeartbeats 1000000 in
theorem made_less_q (w : World) (yb xb : Nat) (cv nv tv ov kv : Value) (p : Nat) (nm : List UInt8) (px : Nat) (n : Int) (id last site : Nat) (hne : xb ≠ yb)
  (hy : w.heap[yb]? = some (.cells (tyCells cv nv tv ov 0 p) 115 (0, 0)))
  (hx : w.heap[xb]? = some (.cells (exCells Kw.less.bytes px nm n kv id last site) 82 (0, 0)))
  (r : Nat) (a b : Ty) :
  Calls Tryz.prog 144 #[ptr yb, ptr xb, .agg #[.string (bs Ty.n.txt), .string (bs (Ty.p r a b).txt), .string (bs [])]] w fun v w' => v = .returned (.string (bs [110])) ∧ w.grownBy w' (some yb) ∧ w'.heap[yb]? = some (.cells (tyCells cv nv tv ov 5 px) 115 (0, 0)) := by
 have x0 : w.cell? ⟨xb, 0, none⟩ = some (.string (bs Kw.less.bytes)) := by rw [blk_cell hx]; rfl
 have hxb := blk_lt hx
 have HY : Hid _ := hy
 have HX : Hid _ := hx
 have q0 : ((bs Kw.less.bytes).toList == [110, 101, 119]) = false := by rw [bs_beq0]; decide
 have q1 : ((bs Kw.less.bytes).toList == [112, 97, 105, 114]) = false := by rw [bs_beq0]; decide
 have q2 : ((bs Kw.less.bytes).toList == [102, 115, 116]) = false := by rw [bs_beq0]; decide
 have q3 : ((bs Kw.less.bytes).toList == [115, 110, 100]) = false := by rw [bs_beq0]; decide
 have q4 : ((bs Kw.less.bytes).toList == [105, 102]) = false := by rw [bs_beq0]; decide
 have q5 : ((bs Kw.less.bytes).toList == [108, 111, 111, 112]) = false := by rw [bs_beq0]; decide
 have k0 : ((bs Ty.n.txt).toList == [110]) = true := by rw [bs_beq0]; decide
 have k1 : ((bs (Ty.p r a b).txt).toList == [110]) = false := by rw [bs_beq0]; simp [Ty.txt]
 have hh := fun w => halves_n w
 have her := fun (o : Obj) => err_any (w.alloc o) yb xb cv nv tv ov kv 0 p 5 _ nm px n id last site hne (blk_alloc o hy) (blk_alloc o hx)
 unfold ptr at her
 clear hy hx
 show Calls _ _ #[Value.pointer (some ⟨yb, 0, none⟩), Value.pointer (some ⟨xb, 0, none⟩), _] w _
 go_enter Tryz.func144, Tryz.ntmps144
 go_wp2_with (first
  | (go_at_call 171; refine (hh _).mono ?_; rintro e w1 ⟨rfl, rfl⟩)
  | (go_at_call 115; refine (her _).mono ?_; rintro e w2 ⟨rfl, hg1, hy1⟩))
 go_ret
 exact ⟨rfl, gr_trans (grew_of (below_box _ _ 0) _) hg1, hy1⟩
end Go.Proofs.YtpicaknklgccoaaGreatDoor
