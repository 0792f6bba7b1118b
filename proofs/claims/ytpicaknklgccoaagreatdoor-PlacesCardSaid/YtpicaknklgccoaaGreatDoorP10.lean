import Derived.Laws.Tables
import Derived.Test.YtpicaknklgccoaaGreatDoorP9
import Derived.Deep.CutRange
namespace Go.Proofs.YtpicaknklgccoaaGreatDoor
open Go.RowKit
theorem st_row {P : Program} {ops : Array Oper} {rest : List Oper} {o : Oper} {a : Act} {w : World} {Q : Exit → Act → World → Prop} (hgd : o.guard = none) (ty : TypeId) (x y : Operand) (ho : o.op = .store ty x y)
  (g : Nat) (cells : Array Value) (hx : a.eval x = .pointer (some ⟨g, 0, none⟩)) (hy : a.eval y = .agg cells)
  (t : TypeId) (old : Array Value) (hg : w.heap[g]? = some (.cells old t (0, 0))) (hi : (P.info? ty).map (·.size) = some cells.size)
  (hold : old.size = cells.size) (h1 : cells.all (·.oneCell') = true)
  (h : ∀ W : World, W.heap[g]? = some (.cells cells t (0, 0)) → W.heap.size = w.heap.size → (∀ k, k ≠ g → W.heap[k]? = w.heap[k]?) → W.os = w.os → W.tape = w.tape → W.output = w.output →
   wpList P ops Q rest (a.put o.dst undef) W) : wpList P ops Q (o :: rest) a w := by
 refine wpList_store_row hgd ty x y ho g cells hx hy t old hg hi hold h1 ?_
 exact h _ (setRow_heap w g old cells t (0, 0) hg) (by simp) (fun k hk => setRow_other w g k cells hk) rfl rfl rfl
theorem below_new {B g : Nat} {w0 w W : World} (hb : Below B w0 w) (hg : B ≤ g) (hs : W.heap.size = w.heap.size) (ho : ∀ k, k ≠ g → W.heap[k]? = w.heap[k]?) (e1 : W.os = w.os) (e2 : W.tape = w.tape) (e3 : W.output = w.output) : Below B w0 W :=
 ⟨e1.trans hb.os, e2.trans hb.tape, e3.trans hb.output, by rw [hs]; exact hb.size, fun k hk => by rw [ho k (by omega)]; exact hb.block k hk⟩
theorem Tryz.infoTN : (Tryz.prog.info? 208).map (·.size) = some 5 := by kernel_rfl
theorem tn_one (T : TN) : (#[Value.int .i64 T.kind, .int .i64 T.at_, .int .i64 T.beh, .string (bs T.word), .int .i64 T.num] : Array Value).all (·.oneCell') = true := by simp [Value.oneCell']
theorem tks_blank (s : ByteArray) (k : Nat) (hk : k < s.size) (h : blankB s[k] = true) : tksAt s.data.toList k = tksAt s.data.toList (k + 1) := by
 unfold tksAt; rw [size_list]; exact toks_step_blank s k hk h
theorem tks_tok (s : ByteArray) (k : Nat) (hk : k < s.size) (h : blankB s[k] = false) : tksAt s.data.toList k = tkAt s k :: tksAt s.data.toList (k + (tokenOf (s.data.toList.drop k)).1) := by
 unfold tksAt; rw [size_list]; exact toks_step_tok s k hk h
theorem tks_end (s : ByteArray) (k : Nat) (hk : s.size ≤ k) : tksAt s.data.toList k = [] := by
 unfold tksAt; rw [size_list, show s.size - k = 0 from by omega]; rfl
theorem tks_skip (s : ByteArray) : ∀ (m a : Nat), s.size - a ≤ m → tksAt s.data.toList (a + nbl (s.data.toList.drop a)) = tksAt s.data.toList a ∧ (∀ h : a + nbl (s.data.toList.drop a) < s.size, blankB (s[a + nbl (s.data.toList.drop a)]) = false) := by
 intro m
 induction m with
 | zero =>
  intro a h
  have : nbl (s.data.toList.drop a) = 0 := by rw [drop_end s a (by omega)]; rfl
  rw [this]; exact ⟨rfl, fun h' => by omega⟩
 | succ m ih =>
  intro a h
  by_cases hlt : a < s.size
  ·cases hb : blankB s[a] with
   | true =>
    have e : a + nbl (s.data.toList.drop a) = (a + 1) + nbl (s.data.toList.drop (a + 1)) := by rw [drop_cons s a hlt]; simp [nbl, hb]; omega
    obtain ⟨h1, h2⟩ := ih (a + 1) (by omega)
    refine ⟨?_, ?_⟩
    ·rw [e, h1, tks_blank s a hlt hb]
    ·simp only [e]; exact h2
   | false =>
    have e : nbl (s.data.toList.drop a) = 0 := by rw [drop_cons s a hlt]; simp [nbl, hb]
    refine ⟨by rw [e, Nat.add_zero], ?_⟩
    simp only [e, Nat.add_zero]
    intro _; exact hb
  ·have : nbl (s.data.toList.drop a) = 0 := by rw [drop_end s a (by omega)]; rfl
   rw [this]; exact ⟨rfl, fun h' => by omega⟩
theorem tn_at (s : ByteArray) (p : Nat) (hp : p < s.size) : tnOf (tkAt s p) = ⟨kindN (tokenOf (s.data.toList.drop p)).2, p, p + (tokenOf (s.data.toList.drop p)).1, wordN (tkAt s p), numN (tkAt s p)⟩ := by
 unfold tnOf; rw [tkAt_len s p hp]; rfl
theorem run_zero (s : ByteArray) (p : Nat) (lo hi : Int) (hp : p < s.size) (h : inB lo hi s[p] = false) : run lo hi (s.data.toList.drop p) = 0 := by
 rw [drop_cons s p hp]; simp [run, h]
theorem run_pos (s : ByteArray) (p : Nat) (lo hi : Int) (hp : p < s.size) (h : inB lo hi s[p] = true) : 0 < run lo hi (s.data.toList.drop p) := by
 rw [drop_cons s p hp]; simp [run, h]
theorem tok_other (s : ByteArray) (p : Nat) (hp : p < s.size) (hl : inB 97 122 s[p] = false) (hd : inB 48 57 s[p] = false) (h35 : s[p] ≠ 35) :
  tokenOf (s.data.toList.drop p) = (1, if s[p] = 40 then .opn else if s[p] = 41 then .cls else .bad) := by
 unfold tokenOf
 rw [run_zero s p 97 122 hp hl, run_zero s p 48 57 hp hd, if_neg (by omega), if_neg (by omega), drop_cons s p hp]
 simp only
 rw [if_neg h35]
theorem tn_other (s : ByteArray) (p : Nat) (hp : p < s.size) (hl : inB 97 122 s[p] = false) (hd : inB 48 57 s[p] = false) (h35 : s[p] ≠ 35) :
  tnOf (tkAt s p) = ⟨if s[p] = 40 then 2 else if s[p] = 41 then 3 else 1, p, p + 1, [], 0⟩ := by
 have h := tok_other s p hp hl hd h35
 rw [tn_at s p hp]
 unfold wordN numN tkAt
 rw [h]
 by_cases h40 : s[p] = 40
 ·simp [h40, kindN]
 ·by_cases h41 : s[p] = 41
  ·simp [h41, kindN]
  ·simp [h40, h41, kindN]
theorem tn_word (s : ByteArray) (p n : Nat) (hp : p < s.size) (hn : n = run 97 122 (s.data.toList.drop p)) (h0 : 0 < n) :
  tnOf (tkAt s p) = ⟨kindN (wordCl ((s.data.toList.drop p).take n) n), p, p + n, if n ≤ 8 then (s.data.toList.drop p).take n else [], 0⟩ := by
 have h : tokenOf (s.data.toList.drop p) = (n, wordCl ((s.data.toList.drop p).take n) n) := by unfold tokenOf; rw [← hn, if_pos h0]
 have hlen : ((s.data.toList.drop p).take n).length = n := by
  have := run_le 97 122 (s.data.toList.drop p)
  rw [List.length_take]; omega
 rw [tn_at s p hp]
 unfold wordN numN tkAt
 rw [h]
 simp only
 by_cases h8 : n ≤ 8
 ·rw [if_pos h8]
  unfold wordCl
  cases kwOf ((s.data.toList.drop p).take n) with
  | some k => rfl
  | none => simp [h8]
 ·rw [if_neg h8]
  have := wordCl_big ((s.data.toList.drop p).take n) (by omega)
  rw [hlen] at this
  rw [this]
theorem tn_num (s : ByteArray) (p n : Nat) (hp : p < s.size) (hl : inB 97 122 s[p] = false) (hn : n = run 48 57 (s.data.toList.drop p)) (h0 : 0 < n) :
  tnOf (tkAt s p) = numTN (s.data.toList.drop p) 4 5 p p n := by
 have h : tokenOf (s.data.toList.drop p) = (n, if numeralB ((s.data.toList.drop p).take n) 4 then .num else .bad) := by
  unfold tokenOf; rw [run_zero s p 97 122 hp hl, if_neg (by omega), ← hn, if_pos h0]
 rw [tn_at s p hp]
 unfold wordN numN tkAt numTN
 rw [h]
 simp only
 cases numeralB ((s.data.toList.drop p).take n) 4 with
 | true => simp [kindN]
 | false => simp [kindN]
theorem valueL_hash (l : List UInt8) : valueL (35 :: l) = valueL l := by unfold valueL; simp
theorem tn_reg (s : ByteArray) (p n : Nat) (hp : p < s.size) (h35 : s[p] = 35) (hn : n = run 48 57 (s.data.toList.drop (p + 1))) :
  tnOf (tkAt s p) = numTN (s.data.toList.drop (p + 1)) 3 6 p (p + 1) n := by
 have hl : inB 97 122 s[p] = false := by rw [h35]; decide
 have hd : inB 48 57 s[p] = false := by rw [h35]; decide
 have h : tokenOf (s.data.toList.drop p) = (n + 1, if numeralB ((s.data.toList.drop (p + 1)).take n) 3 then .reg else .bad) := by
  unfold tokenOf
  rw [run_zero s p 97 122 hp hl, run_zero s p 48 57 hp hd, if_neg (by omega), if_neg (by omega), drop_cons s p hp]
  simp only
  rw [if_pos h35, ← hn]
 rw [tn_at s p hp]
 unfold wordN numN tkAt numTN
 rw [h]
 simp only
 have ht : (s.data.toList.drop p).take (n + 1) = 35 :: (s.data.toList.drop (p + 1)).take n := by rw [drop_cons s p hp, List.take_succ_cons, h35]
 rw [ht]
 cases numeralB ((s.data.toList.drop (p + 1)).take n) 3 with
 | true => simp [kindN, valueL_hash]; omega
 | false => simp [kindN]; omega
set_option maxRecDepth 100000 in
set_option maxHeartbeats 2000000 in
theorem Next_any (s : ByteArray) (a : Nat) (w : World) (hs : s.size ≤ 9000) (ha : a ≤ s.size) :
  Calls Tryz.prog 182 #[.string s, .int .i64 a] w fun e w' => e = .returned (tnVal (tk1 s.size (tksAt s.data.toList a))) ∧ Below w.heap.size w w' := by
 obtain ⟨hsk1, hsk2⟩ := tks_skip s s.size a (by omega)
 have hnl := nbl_le (s.data.toList.drop a)
 rw [List.length_drop, size_list] at hnl
 have hskp := fun w => skipBlanks_any s a w hs ha
 rw [← hsk1]
 obtain ⟨p, hp⟩ : ∃ p, p = a + nbl (s.data.toList.drop a) := ⟨_, rfl⟩
 have hps : p ≤ s.size := by omega
 have hsk3 : ∀ h : p < s.size, blankB s[p] = false := by subst hp; exact hsk2
 clear hsk2
 rw [← hp] at hskp ⊢
 clear hp hnl hsk1
 have hby := fun w => byteAt_any s p w (by omega)
 by_cases hlt : p < s.size
 ·have hb := hsk3 hlt
  clear hsk3
  have htk : tk1 s.size (tksAt s.data.toList p) = tnOf (tkAt s p) := by rw [tks_tok s p hlt hb]; rfl
  rw [htk]
  clear htk hb
  rw [bA_in s p hlt] at hby
  have hle := fun w => isLetter_any s[p] w
  have hdi := fun w => isDigit_any s[p] w
  have e40 : ((s[p].toNat : Int) == 40) = (s[p] == 40) := byte_eq s[p] 40
  have e41 : ((s[p].toNat : Int) == 41) = (s[p] == 41) := byte_eq s[p] 41
  have e35 : ((s[p].toNat : Int) == 35) = (s[p] == 35) := byte_eq s[p] 35
  cases hL : inB 97 122 s[p] with
  | true =>
   have d40 : ((s[p].toNat : Int) == 40) = false := by
    rw [beq_eq_false_iff_ne]; unfold inB at hL; simp only [Bool.and_eq_true, decide_eq_true_eq] at hL; omega
   have d41 : ((s[p].toNat : Int) == 41) = false := by
    rw [beq_eq_false_iff_ne]; unfold inB at hL; simp only [Bool.and_eq_true, decide_eq_true_eq] at hL; omega
   obtain ⟨n, hn⟩ : ∃ n, n = run 97 122 (s.data.toList.drop p) := ⟨_, rfl⟩
   have h0 : 0 < n := by rw [hn]; exact run_pos s p 97 122 hlt hL
   have hrl := run_le 97 122 (s.data.toList.drop p)
   rw [List.length_drop, size_list, ← hn] at hrl
   have hrw := fun w => readWord_any s p n w hs hn (by omega)
   rw [← tn_word s p n hlt hn h0] at hrw
   rw [hL] at hle
   generalize tnOf (tkAt s p) = T at hrw
   unfold tnVal at hrw
   clear e40 e41 e35 hL hn h0 hrl
   go_enter Tryz.func182, Tryz.ntmps182
   go_wp2_with (first
    | (go_at_call 191; refine (hskp _).mono ?_; rintro e w' ⟨rfl, rfl⟩)
    | (go_at_call 192; refine (hby _).mono ?_; rintro e w' ⟨rfl, rfl⟩)
    | (go_at_call 193; refine (hle _).mono ?_; rintro e w' ⟨rfl, rfl⟩)
    | (go_at_call 195; refine (hdi _).mono ?_; rintro e w' ⟨rfl, rfl⟩))
   refine (hrw _).mono ?_
   rintro e w1 ⟨rfl, hb1⟩
   have hgb : w1.heap[w.heap.size]? = some (.cells #[.int .i64 0, .int .i64 0, .int .i64 0, .string ⟨#[]⟩, .int .i64 0] 208 (0, 0)) := by
    rw [hb1.block w.heap.size (by simp)]; exact blk_new _ _
   go_wp2_with (refine st_row rfl 208 (.tmp 4) (.tmp 41) rfl w.heap.size #[.int .i64 T.kind, .int .i64 T.at_, .int .i64 T.beh, .string (bs T.word), .int .i64 T.num] rfl rfl 208 _ hgb Tryz.infoTN rfl (tn_one T) ?_; intro W hW hWs hWo hW1 hW2 hW3)
   have c0 : W.cell? ⟨w.heap.size, 0, none⟩ = some (.int .i64 T.kind) := by rw [blk_cell hW]; rfl
   have c1 : W.cell? ⟨w.heap.size, 1, none⟩ = some (.int .i64 T.at_) := by rw [blk_cell hW]; rfl
   have c2 : W.cell? ⟨w.heap.size, 2, none⟩ = some (.int .i64 T.beh) := by rw [blk_cell hW]; rfl
   have c3 : W.cell? ⟨w.heap.size, 3, none⟩ = some (.string (bs T.word)) := by rw [blk_cell hW]; rfl
   have c4 : W.cell? ⟨w.heap.size, 4, none⟩ = some (.int .i64 T.num) := by rw [blk_cell hW]; rfl
   have hBW : Below w.heap.size w W := below_new (((Below.refl _ w).alloc (Nat.le_refl _) _).trans (hb1.mono (by simp))) (Nat.le_refl _) hWs hWo hW1 hW2 hW3
   have HBW : Hid _ := hBW
   clear hW hWs hWo hW1 hW2 hW3 hb1 hBW
   refine bodyPost_ret (v := .agg #[.int .i64 T.kind, .int .i64 T.at_, .int .i64 T.beh, .string (bs T.word), .int .i64 T.num]) (by simp [results, Tryz.results182, go_sem, c0, c1, c2, c3, c4]) rfl ⟨rfl, HBW.out⟩
  | false =>
   rw [hL] at hle
   cases hD : inB 48 57 s[p] with
   | true =>
    have d40 : ((s[p].toNat : Int) == 40) = false := by
     rw [beq_eq_false_iff_ne]; unfold inB at hD; simp only [Bool.and_eq_true, decide_eq_true_eq] at hD; omega
    have d41 : ((s[p].toNat : Int) == 41) = false := by
     rw [beq_eq_false_iff_ne]; unfold inB at hD; simp only [Bool.and_eq_true, decide_eq_true_eq] at hD; omega
    obtain ⟨n, hn⟩ : ∃ n, n = run 48 57 (s.data.toList.drop p) := ⟨_, rfl⟩
    have h0 : 0 < n := by rw [hn]; exact run_pos s p 48 57 hlt hD
    have hrl := run_le 48 57 (s.data.toList.drop p)
    rw [List.length_drop, size_list, ← hn] at hrl
    have hrn := fun w => readNumber_any s p p n 4 5 w hs hn (by omega) (by omega)
    rw [← tn_num s p n hlt hL hn h0] at hrn
    rw [hD] at hdi
    generalize tnOf (tkAt s p) = T at hrn
    unfold tnVal at hrn
    clear e40 e41 e35 hL hD hn h0 hrl
    go_enter Tryz.func182, Tryz.ntmps182
    go_wp2_with (first
     | (go_at_call 191; refine (hskp _).mono ?_; rintro e w' ⟨rfl, rfl⟩)
     | (go_at_call 192; refine (hby _).mono ?_; rintro e w' ⟨rfl, rfl⟩)
     | (go_at_call 193; refine (hle _).mono ?_; rintro e w' ⟨rfl, rfl⟩)
     | (go_at_call 195; refine (hdi _).mono ?_; rintro e w' ⟨rfl, rfl⟩))
    refine (hrn _).mono ?_
    rintro e w1 ⟨rfl, hb1⟩
    have hgb : w1.heap[w.heap.size]? = some (.cells #[.int .i64 0, .int .i64 0, .int .i64 0, .string ⟨#[]⟩, .int .i64 0] 208 (0, 0)) := by
     rw [hb1.block w.heap.size (by simp)]; exact blk_new _ _
    go_wp2_with (refine st_row rfl 208 (.tmp 4) (.tmp 48) rfl w.heap.size #[.int .i64 T.kind, .int .i64 T.at_, .int .i64 T.beh, .string (bs T.word), .int .i64 T.num] rfl rfl 208 _ hgb Tryz.infoTN rfl (tn_one T) ?_; intro W hW hWs hWo hW1 hW2 hW3)
    have c0 : W.cell? ⟨w.heap.size, 0, none⟩ = some (.int .i64 T.kind) := by rw [blk_cell hW]; rfl
    have c1 : W.cell? ⟨w.heap.size, 1, none⟩ = some (.int .i64 T.at_) := by rw [blk_cell hW]; rfl
    have c2 : W.cell? ⟨w.heap.size, 2, none⟩ = some (.int .i64 T.beh) := by rw [blk_cell hW]; rfl
    have c3 : W.cell? ⟨w.heap.size, 3, none⟩ = some (.string (bs T.word)) := by rw [blk_cell hW]; rfl
    have c4 : W.cell? ⟨w.heap.size, 4, none⟩ = some (.int .i64 T.num) := by rw [blk_cell hW]; rfl
    have hBW : Below w.heap.size w W := below_new (((Below.refl _ w).alloc (Nat.le_refl _) _).trans (hb1.mono (by simp))) (Nat.le_refl _) hWs hWo hW1 hW2 hW3
    have HBW : Hid _ := hBW
    clear hW hWs hWo hW1 hW2 hW3 hb1 hBW
    refine bodyPost_ret (v := .agg #[.int .i64 T.kind, .int .i64 T.at_, .int .i64 T.beh, .string (bs T.word), .int .i64 T.num]) (by simp [results, Tryz.results182, go_sem, c0, c1, c2, c3, c4]) rfl ⟨rfl, HBW.out⟩
   | false =>
    rw [hD] at hdi
    by_cases h35 : s[p] = 35
    ·have d35 : ((s[p].toNat : Int) == 35) = true := by rw [e35]; simpa using h35
     have d40 : ((s[p].toNat : Int) == 40) = false := by rw [e40, h35]; rfl
     have d41 : ((s[p].toNat : Int) == 41) = false := by rw [e41, h35]; rfl
     obtain ⟨n, hn⟩ : ∃ n, n = run 48 57 (s.data.toList.drop (p + 1)) := ⟨_, rfl⟩
     have hrl := run_le 48 57 (s.data.toList.drop (p + 1))
     rw [List.length_drop, size_list, ← hn] at hrl
     have hrn := fun w => readNumber_any s p (p + 1) n 3 6 w hs hn (by omega) (by omega)
     rw [← tn_reg s p n hlt h35 hn] at hrn
     generalize tnOf (tkAt s p) = T at hrn
     unfold tnVal at hrn
     rw [Int.natCast_add] at hrn
     clear e40 e41 e35 hL hD hn hrl h35
     go_enter Tryz.func182, Tryz.ntmps182
     go_wp2_with (first
      | (go_at_call 191; refine (hskp _).mono ?_; rintro e w' ⟨rfl, rfl⟩)
      | (go_at_call 192; refine (hby _).mono ?_; rintro e w' ⟨rfl, rfl⟩)
      | (go_at_call 193; refine (hle _).mono ?_; rintro e w' ⟨rfl, rfl⟩)
      | (go_at_call 195; refine (hdi _).mono ?_; rintro e w' ⟨rfl, rfl⟩))
     refine (hrn _).mono ?_
     rintro e w1 ⟨rfl, hb1⟩
     have hgb : w1.heap[w.heap.size]? = some (.cells #[.int .i64 0, .int .i64 0, .int .i64 0, .string ⟨#[]⟩, .int .i64 0] 208 (0, 0)) := by
      rw [hb1.block w.heap.size (by simp)]; exact blk_new _ _
     go_wp2_with (refine st_row rfl 208 (.tmp 4) (.tmp 56) rfl w.heap.size #[.int .i64 T.kind, .int .i64 T.at_, .int .i64 T.beh, .string (bs T.word), .int .i64 T.num] rfl rfl 208 _ hgb Tryz.infoTN rfl (tn_one T) ?_; intro W hW hWs hWo hW1 hW2 hW3)
     have c0 : W.cell? ⟨w.heap.size, 0, none⟩ = some (.int .i64 T.kind) := by rw [blk_cell hW]; rfl
     have c1 : W.cell? ⟨w.heap.size, 1, none⟩ = some (.int .i64 T.at_) := by rw [blk_cell hW]; rfl
     have c2 : W.cell? ⟨w.heap.size, 2, none⟩ = some (.int .i64 T.beh) := by rw [blk_cell hW]; rfl
     have c3 : W.cell? ⟨w.heap.size, 3, none⟩ = some (.string (bs T.word)) := by rw [blk_cell hW]; rfl
     have c4 : W.cell? ⟨w.heap.size, 4, none⟩ = some (.int .i64 T.num) := by rw [blk_cell hW]; rfl
     have hBW : Below w.heap.size w W := below_new (((Below.refl _ w).alloc (Nat.le_refl _) _).trans (hb1.mono (by simp))) (Nat.le_refl _) hWs hWo hW1 hW2 hW3
     have HBW : Hid _ := hBW
     clear hW hWs hWo hW1 hW2 hW3 hb1 hBW
     refine bodyPost_ret (v := .agg #[.int .i64 T.kind, .int .i64 T.at_, .int .i64 T.beh, .string (bs T.word), .int .i64 T.num]) (by simp [results, Tryz.results182, go_sem, c0, c1, c2, c3, c4]) rfl ⟨rfl, HBW.out⟩
    ·have d35 : ((s[p].toNat : Int) == 35) = false := by rw [e35]; simpa using h35
     have htn := tn_other s p hlt hL hD h35
     rw [htn]
     clear htn e35 hL hD h35
     by_cases h40 : s[p] = 40
     ·have d40 : ((s[p].toNat : Int) == 40) = true := by rw [e40]; simpa using h40
      have H40 : Hid _ := h40
      clear h40 e40 e41
      go_enter Tryz.func182, Tryz.ntmps182
      go_wp2_with (first
       | (go_at_call 191; refine (hskp _).mono ?_; rintro e w' ⟨rfl, rfl⟩)
       | (go_at_call 192; refine (hby _).mono ?_; rintro e w' ⟨rfl, rfl⟩))
      refine bodyPost_ret (v := .agg #[.int .i64 2, .int .i64 p, .int .i64 ((p : Int) + 1), .string ⟨#[]⟩, .int .i64 0]) (by simp [results, Tryz.results182, go_sem]) rfl ⟨?_, (Below.refl _ _).alloc (Nat.le_refl _) _⟩
      first | rfl | (simp only [if_pos H40.out]; rfl) | (unfold tnVal; simp only [if_pos H40.out]; rfl)
     ·have d40 : ((s[p].toNat : Int) == 40) = false := by rw [e40]; simpa using h40
      have H40 : Hid _ := h40
      clear h40 e40
      by_cases h41 : s[p] = 41
      ·have d41 : ((s[p].toNat : Int) == 41) = true := by rw [e41]; simpa using h41
       have H41 : Hid _ := h41
       clear h41 e41
       go_enter Tryz.func182, Tryz.ntmps182
       go_wp2_with (first
        | (go_at_call 191; refine (hskp _).mono ?_; rintro e w' ⟨rfl, rfl⟩)
        | (go_at_call 192; refine (hby _).mono ?_; rintro e w' ⟨rfl, rfl⟩))
       refine bodyPost_ret (v := .agg #[.int .i64 3, .int .i64 p, .int .i64 ((p : Int) + 1), .string ⟨#[]⟩, .int .i64 0]) (by simp [results, Tryz.results182, go_sem]) rfl ⟨?_, (Below.refl _ _).alloc (Nat.le_refl _) _⟩
       first | rfl | (simp only [if_neg H40.out, if_pos H41.out]; rfl) | (unfold tnVal; simp only [if_neg H40.out, if_pos H41.out]; rfl)
      ·have d41 : ((s[p].toNat : Int) == 41) = false := by rw [e41]; simpa using h41
       have H41 : Hid _ := h41
       clear h41 e41
       go_enter Tryz.func182, Tryz.ntmps182
       go_wp2_with (first
        | (go_at_call 191; refine (hskp _).mono ?_; rintro e w' ⟨rfl, rfl⟩)
        | (go_at_call 192; refine (hby _).mono ?_; rintro e w' ⟨rfl, rfl⟩)
        | (go_at_call 193; refine (hle _).mono ?_; rintro e w' ⟨rfl, rfl⟩)
        | (go_at_call 195; refine (hdi _).mono ?_; rintro e w' ⟨rfl, rfl⟩))
       refine bodyPost_ret (v := .agg #[.int .i64 1, .int .i64 p, .int .i64 ((p : Int) + 1), .string ⟨#[]⟩, .int .i64 0]) (by simp [results, Tryz.results182, go_sem]) rfl ⟨?_, (Below.refl _ _).alloc (Nat.le_refl _) _⟩
       first | rfl | (simp only [if_neg H40.out, if_neg H41.out]; rfl) | (unfold tnVal; simp only [if_neg H40.out, if_neg H41.out]; rfl)
 ·have htk : tksAt s.data.toList p = [] := tks_end s p (by omega)
  rw [htk]
  clear htk hsk3
  go_enter Tryz.func182, Tryz.ntmps182
  go_wp2_with (go_at_call 191; refine (hskp _).mono ?_; rintro e w' ⟨rfl, rfl⟩)
  refine bodyPost_ret (v := .agg #[.int .i64 0, .int .i64 s.size, .int .i64 s.size, .string ⟨#[]⟩, .int .i64 0]) (by simp [results, Tryz.results182, go_sem]) rfl ⟨rfl, (Below.refl _ _).alloc (Nat.le_refl _) _⟩
structure Gr (pE : PS → Int × PS) (st : PS) : Prop where
 sc : (pE st).2.scope = st.scope
 l : (pE st).2.l.length ≤ st.l.length
 nd : (pE st).2.nodes.length + (pE st).2.l.length ≤ st.nodes.length + st.l.length
 op : (pE st).2.opened.length + 4 * (pE st).2.l.length ≤ st.opened.length + 4 * st.l.length + 1
 up : st.opened.length ≤ (pE st).2.opened.length
def GrAll (pE : PS → Int × PS) (m : Nat) : Prop := ∀ st : PS, st.l.length ≤ m → Gr pE st
structure Gs (a b : PS) (j n : Nat) : Prop where
 sc : b.scope = a.scope
 l : b.l.length ≤ a.l.length
 nd : b.nodes.length + b.l.length ≤ a.nodes.length + a.l.length + n
 op : b.opened.length + 4 * b.l.length ≤ a.opened.length + 4 * a.l.length + j
 up : a.opened.length ≤ b.opened.length
theorem Gs.refl (a : PS) : Gs a a 0 0 := ⟨rfl, Nat.le_refl _, Nat.le_refl _, Nat.le_refl _, Nat.le_refl _⟩
theorem Gs.trans {a b c : PS} {i j n m : Nat} (h : Gs a b i n) (h' : Gs b c j m) : Gs a c (i + j) (n + m) :=
 ⟨h'.sc.trans h.sc, by have := h.l; have := h'.l; omega, by have := h.nd; have := h'.nd; omega, by have := h.op; have := h'.op; omega, by have := h.up; have := h'.up; omega⟩
theorem gs_tail (st : PS) : Gs st st.tail 0 0 := by
 refine ⟨rfl, tail_len st, ?_, ?_, Nat.le_refl _⟩
 ·have := tail_len st; simp only [PS.tail] at this ⊢; omega
 ·have := tail_len st; simp only [PS.tail] at this ⊢; omega
theorem gs_fail (a : Nat) (st : PS) : Gs st (st.fail a) 0 0 := by
 unfold PS.fail
 split
 ·exact Gs.refl _
 ·exact ⟨rfl, by simp, by simp, by simp, Nat.le_refl _⟩
theorem gs_expect (len k : Nat) (st : PS) : Gs st (st.expect len k) 0 0 := by
 unfold PS.expect
 split
 ·exact (gs_tail st).trans (gs_fail _ _)
 ·exact gs_tail st
theorem gs_pE {pE : PS → Int × PS} {m : Nat} (h : GrAll pE m) (st : PS) (hl : st.l.length ≤ m) : Gs st (pE st).2 1 0 :=
 have g := h st hl
 ⟨g.sc, g.l, g.nd, g.op, g.up⟩
theorem gs_body {pE : PS → Int × PS} {m : Nat} (h : GrAll pE m) (w : List UInt8) (src : Int) (st : PS) (hl : st.l.length ≤ m) : Gs st (pBody pE w src st).2 1 0 := by
 have g := h { st with scope := st.scope ++ [(w, src)] } hl
 refine ⟨?_, g.l, g.nd, g.op, g.up⟩
 unfold pBody
 simp only [g.sc, List.dropLast_concat]
theorem gs_row1 {pE : PS → Int × PS} {m : Nat} (h : GrAll pE m) (n : NR) (st : PS) (hl : st.l.length ≤ m) : Gs st (pRow1 pE n st).2 1 0 := gs_pE h st hl
theorem gs_row2 {pE : PS → Int × PS} {m : Nat} (h : GrAll pE m) (n : NR) (st : PS) (hl : st.l.length ≤ m) : Gs st (pRow2 pE n st).2 2 0 :=
 have g := gs_row1 h n st hl
 g.trans (gs_pE h _ (Nat.le_trans g.l hl))
theorem gs_row3 {pE : PS → Int × PS} {m : Nat} (h : GrAll pE m) (n : NR) (st : PS) (hl : st.l.length ≤ m) : Gs st (pRow3 pE n st).2 3 0 :=
 have g := gs_row2 h n st hl
 g.trans (gs_pE h _ (Nat.le_trans g.l hl))
theorem gs_let {pE : PS → Int × PS} {m : Nat} (h : GrAll pE m) (len : Nat) (n : NR) (st : PS) (hl : st.l.length ≤ m) : Gs st (pLet len pE n st).2 2 0 := by
 have g1 := gs_expect len 4 st
 have g2 := gs_pE h (st.expect len 4) (Nat.le_trans g1.l hl)
 have g3 := gs_body h (tk1 len st.l).word (pE (st.expect len 4)).1 (pE (st.expect len 4)).2 (by have := g1.l; have := g2.l; omega)
 exact (g1.trans g2).trans g3
theorem gs_loop {pE : PS → Int × PS} {m : Nat} (h : GrAll pE m) (len : Nat) (n : NR) (st : PS) (hl : st.l.length ≤ m) : Gs st (pLoop len pE n st).2 3 0 := by
 have g0 := gs_pE h st hl
 have g1 := gs_expect len 4 (pE st).2
 have g2 := gs_pE h ((pE st).2.expect len 4) (by have := g0.l; have := g1.l; omega)
 have g3 := gs_body h (tk1 len (pE st).2.l).word (pE ((pE st).2.expect len 4)).1 (pE ((pE st).2.expect len 4)).2 (by have := g0.l; have := g1.l; have := g2.l; omega)
 exact ((g0.trans g1).trans g2).trans g3
theorem Gs.le {a b : PS} {j j' n n' : Nat} (h : Gs a b j n) (hj : j ≤ j') (hn : n ≤ n') : Gs a b j' n' := ⟨h.sc, h.l, by have := h.nd; omega, by have := h.op; omega, h.up⟩
theorem gs_fill {pE : PS → Int × PS} {m : Nat} (h : GrAll pE m) (placed : Bool) (len : Nat) (n : NR) (st : PS) (hl : st.l.length ≤ m) : Gs st (pFill placed len pE n st).2 3 0 := by
 have hr : Gs st (pRegion len n st).2 0 0 := gs_expect len 6 st
 have hrl := hr.l
 unfold pFill
 split
 ·exact (gs_let h len n st hl).le (by omega) (by omega)
 split
 ·exact gs_loop h len n st hl
 split
 ·split
  ·exact (hr.trans (gs_row2 h _ _ (by omega))).le (by omega) (by omega)
  ·exact (gs_row2 h n st hl).le (by omega) (by omega)
 split
 ·exact (hr.trans (gs_row1 h _ _ (by omega))).le (by omega) (by omega)
 split
 ·exact (gs_row1 h n st hl).le (by omega) (by omega)
 split
 ·exact gs_row3 h n st hl
 ·exact (gs_row2 h n st hl).le (by omega) (by omega)
theorem gs_add (n : NR) (st : PS) : Gs st (st.add n) 0 1 := ⟨rfl, Nat.le_refl _, by simp [PS.add]; omega, Nat.le_refl _, Nat.le_refl _⟩
theorem gs_bracket {pE : PS → Int × PS} {m : Nat} (h : GrAll pE m) (placed : Bool) (len : Nat) (n : NR) (st : PS) (hl : st.l.length ≤ m) : Gs st (pBracket placed len pE n st).2 3 1 := by
 have ht := gs_tail st
 have htl := ht.l
 unfold pBracket
 simp only
 split
 ·exact (ht.trans (gs_fail _ _)).le (by omega) (by omega)
 ·have h1 := gs_fill h placed len { n with form := formN (tk1 len st.l).kind } st.tail (by omega)
  exact ((ht.trans h1).trans (gs_expect len 3 _)).trans (gs_add _ _)
theorem gr_any {pB : NR → PS → Int × PS} (len : Nat) (st : PS) (h : ∀ n, st.l ≠ [] → Gs st.tail (pB n st.tail).2 3 1) :
  (pAny len pB st).2.scope = st.scope ∧ (pAny len pB st).2.l.length ≤ st.l.length ∧ (pAny len pB st).2.nodes.length + (pAny len pB st).2.l.length ≤ st.nodes.length + st.l.length ∧
   (pAny len pB st).2.opened.length + 4 * (pAny len pB st).2.l.length ≤ st.opened.length + 4 * st.l.length ∧ st.opened.length ≤ (pAny len pB st).2.opened.length := by
 cases hl : st.l with
 | nil =>
  have e : pAny len pB st = (-1, st.tail.fail len) := by simp [pAny, hl, tk1]
  rw [e]
  have g := (gs_tail st).trans (gs_fail len st.tail)
  have g1 := g.sc; have g2 := g.l; have g3 := g.nd; have g4 := g.op; have g5 := g.up
  rw [hl] at g2 g3 g4
  exact ⟨g1, g2, by omega, by omega, g5⟩
 | cons t r =>
  have ht : st.tail.l = r := by simp [PS.tail, hl]
  unfold pAny
  rw [hl]
  simp only [List.length_cons]
  split
  ·refine ⟨rfl, ?_, ?_, ?_, Nat.le_refl _⟩ <;> simp only [PS.add, PS.tail, hl, List.tail_cons, List.length_append, List.length_cons, List.length_nil] <;> omega
  split
  ·refine ⟨rfl, ?_, ?_, ?_, Nat.le_refl _⟩ <;> simp only [PS.add, PS.tail, hl, List.tail_cons, List.length_append, List.length_cons, List.length_nil] <;> omega
  split
  ·have g := h (nodeT (tk1 len (t :: r))) (by rw [hl]; simp)
   have g1 := g.sc; have g2 := g.l; have g3 := g.nd; have g4 := g.op; have g5 := g.up
   rw [ht] at g2 g3 g4
   have e1 : st.tail.nodes = st.nodes := rfl
   have e2 : st.tail.opened = st.opened := rfl
   rw [e1] at g3
   rw [e2] at g4 g5
   refine ⟨g1, ?_, ?_, ?_, g5⟩ <;> omega
  ·have g := (gs_tail st).trans (gs_fail (tk1 len (t :: r)).at_ st.tail)
   have g1 := g.sc; have g2 := g.l; have g3 := g.nd; have g4 := g.op; have g5 := g.up
   rw [hl] at g2 g3 g4
   simp only [List.length_cons] at g2 g3 g4
   exact ⟨g1, by omega, by omega, by omega, g5⟩
theorem gr_seat {f : PS → Int × PS} (st : PS) (h : let a := { st with opened := st.opened ++ [-1] }; (f a).2.scope = a.scope ∧ (f a).2.l.length ≤ a.l.length ∧ (f a).2.nodes.length + (f a).2.l.length ≤ a.nodes.length + a.l.length ∧
   (f a).2.opened.length + 4 * (f a).2.l.length ≤ a.opened.length + 4 * a.l.length ∧ a.opened.length ≤ (f a).2.opened.length) : Gr (pSeat f) st := by
 simp only at h
 obtain ⟨h1, h2, h3, h4, h5⟩ := h
 refine ⟨h1, h2, h3, ?_, ?_⟩
 ·unfold pSeat; simp only [List.length_set]
  simp only [List.length_append, List.length_cons, List.length_nil] at h4; omega
 ·unfold pSeat; simp only [List.length_set]
  simp only [List.length_append, List.length_cons, List.length_nil] at h5; omega
theorem gr_expr (placed : Bool) (len : Nat) : ∀ n : Nat, GrAll (pExpr placed len n) n := by
 intro n
 induction n with
 | zero =>
  intro st hl
  unfold pExpr
  refine gr_seat st (gr_any len _ (fun n hn => absurd (List.length_eq_zero_iff.1 (by simpa using hl)) hn))
 | succ m ih =>
  intro st hl
  unfold pExpr
  refine gr_seat st (gr_any len _ (fun n hn => gs_bracket ih placed len n _ ?_))
  simp [PS.tail]; omega
def psCells (s : ByteArray) (placed : Bool) (fr : Nat) (fl : Bool) (a : Nat) (sv nv ov : Value) : Array Value := #[.string s, .bool placed, .int .i64 fr, .bool fl, .int .i64 a, sv, nv, ov]
def nrL (n : NR) : List Value := [.int .i64 n.form, .int .i64 n.at_, .int .i64 n.beh, .int .i64 n.num, .string (bs n.word), .int .i64 n.region, .int .i64 n.source, .int .i64 n.p0, .int .i64 n.p1, .int .i64 n.p2]
def scL (x : List UInt8 × Int) : List Value := [.string (bs x.1), .int .i64 x.2]
def intV (i : Int) : Value := .int .i64 i
structure PIn (s : ByteArray) (placed : Bool) (pb : Nat) (w : World) (sv nv ov : Value) (st : PS) : Prop where
 y : ∃ fr, fr ≤ s.size ∧ tksAt s.data.toList fr = st.l ∧ w.heap[pb]? = some (.cells (psCells s placed fr st.fl.isSome (st.fl.getD 0) sv nv ov) 150 (0, 0))
 sc : w.ownsRow 0 264 2 sv st.scope.length (st.scope.flatMap scL)
 nd : w.ownsRow 0 160 10 nv st.nodes.length (st.nodes.flatMap nrL)
 op : w.ownsRow 0 3 1 ov st.opened.length (st.opened.map intV)
 sy : sv.ownBlock ≠ some pb
 ny : nv.ownBlock ≠ some pb
 oy : ov.ownBlock ≠ some pb
 sn : apart sv nv
 so : apart sv ov
 no : apart nv ov
structure PFr (pb nb : Nat) (w w' : World) (sv nv ov sv' nv' ov' : Value) : Prop where
 os : w'.os = w.os
 tape : w'.tape = w.tape
 output : w'.output = w.output
 size : w.heap.size ≤ w'.heap.size
 blk : ∀ k, k < w.heap.size → k ≠ pb → k ≠ nb → sv.ownBlock ≠ some k → nv.ownBlock ≠ some k → ov.ownBlock ≠ some k → w'.heap[k]? = w.heap[k]?
 s : ∀ g, sv'.ownBlock = some g → sv.ownBlock = some g ∨ w.heap.size ≤ g
 n : ∀ g, nv'.ownBlock = some g → nv.ownBlock = some g ∨ w.heap.size ≤ g
 o : ∀ g, ov'.ownBlock = some g → ov.ownBlock = some g ∨ w.heap.size ≤ g
theorem PFr.refl (pb nb : Nat) (w : World) (sv nv ov : Value) : PFr pb nb w w sv nv ov sv nv ov := ⟨rfl, rfl, rfl, Nat.le_refl _, fun _ _ _ _ _ _ _ => rfl, fun _ h => Or.inl h, fun _ h => Or.inl h, fun _ h => Or.inl h⟩
theorem PFr.trans {pb nb : Nat} {w w1 w2 : World} {sv nv ov sv1 nv1 ov1 sv2 nv2 ov2 : Value} (h : PFr pb nb w w1 sv nv ov sv1 nv1 ov1) (h' : PFr pb nb w1 w2 sv1 nv1 ov1 sv2 nv2 ov2) : PFr pb nb w w2 sv nv ov sv2 nv2 ov2 := by
 refine ⟨h'.os.trans h.os, h'.tape.trans h.tape, h'.output.trans h.output, Nat.le_trans h.size h'.size, ?_, ?_, ?_, ?_⟩
 ·intro k hk hp hnb hs hn ho
  rw [h'.blk k (Nat.lt_of_lt_of_le hk h.size) hp hnb (fun e => by rcases h.s k e with e | e; exact hs e; omega) (fun e => by rcases h.n k e with e | e; exact hn e; omega) (fun e => by rcases h.o k e with e | e; exact ho e; omega)]
  exact h.blk k hk hp hnb hs hn ho
 ·intro g hg
  rcases h'.s g hg with e | e
  ·exact h.s g e
  ·exact Or.inr (Nat.le_trans h.size e)
 ·intro g hg
  rcases h'.n g hg with e | e
  ·exact h.n g e
  ·exact Or.inr (Nat.le_trans h.size e)
 ·intro g hg
  rcases h'.o g hg with e | e
  ·exact h.o g e
  ·exact Or.inr (Nat.le_trans h.size e)
theorem PFr.below {w w' : World} (pb nb : Nat) (sv nv ov : Value) (h : Below w.heap.size w w') : PFr pb nb w w' sv nv ov sv nv ov := ⟨h.os, h.tape, h.output, h.size, fun k hk _ _ _ _ _ => h.block k hk, fun _ h => Or.inl h, fun _ h => Or.inl h, fun _ h => Or.inl h⟩
theorem PFr.nb {pb nb : Nat} {w w' : World} {sv nv ov sv' nv' ov' : Value} (h : PFr pb pb w w' sv nv ov sv' nv' ov') : PFr pb nb w w' sv nv ov sv' nv' ov' := ⟨h.os, h.tape, h.output, h.size, fun k hk hp _ hs hn ho => h.blk k hk hp hp hs hn ho, h.s, h.n, h.o⟩
theorem PIn.move {s : ByteArray} {placed : Bool} {pb : Nat} {w w' : World} {sv nv ov : Value} {st : PS} (h : PIn s placed pb w sv nv ov st) (l : List Tk) (fl : Option Nat)
  (hs : ∀ k, sv.ownBlock = some k → w'.heap[k]? = w.heap[k]?) (hn : ∀ k, nv.ownBlock = some k → w'.heap[k]? = w.heap[k]?) (ho : ∀ k, ov.ownBlock = some k → w'.heap[k]? = w.heap[k]?)
  (hy : ∃ fr, fr ≤ s.size ∧ tksAt s.data.toList fr = l ∧ w'.heap[pb]? = some (.cells (psCells s placed fr fl.isSome (fl.getD 0) sv nv ov) 150 (0, 0))) :
  PIn s placed pb w' sv nv ov { st with l := l, fl := fl } :=
 ⟨hy, owns_blk h.sc hs, owns_blk h.nd hn, owns_blk h.op ho, h.sy, h.ny, h.oy, h.sn, h.so, h.no⟩
theorem PIn.slt {s : ByteArray} {placed : Bool} {pb : Nat} {w : World} {sv nv ov : Value} {st : PS} (h : PIn s placed pb w sv nv ov st) : (∀ k, sv.ownBlock = some k → k < w.heap.size) ∧ (∀ k, nv.ownBlock = some k → k < w.heap.size) ∧ (∀ k, ov.ownBlock = some k → k < w.heap.size) ∧ pb < w.heap.size :=
 ⟨fun k hk => (h.sc.lt k hk).2, fun k hk => (h.nd.lt k hk).2, fun k hk => (h.op.lt k hk).2, by obtain ⟨fr, _, _, hy⟩ := h.y; exact blk_lt hy⟩
theorem PIn.below {s : ByteArray} {placed : Bool} {pb : Nat} {w w' : World} {sv nv ov : Value} {st : PS} (h : PIn s placed pb w sv nv ov st) (hb : Below w.heap.size w w') : PIn s placed pb w' sv nv ov st := by
 obtain ⟨h1, h2, h3, h4⟩ := h.slt
 obtain ⟨fr, hf1, hf2, hf3⟩ := h.y
 exact PIn.move h st.l st.fl (fun k hk => hb.block k (h1 k hk)) (fun k hk => hb.block k (h2 k hk)) (fun k hk => hb.block k (h3 k hk)) ⟨fr, hf1, hf2, by rw [hb.block pb h4]; exact hf3⟩
theorem alloc2_kept {w w2 : World} {A : Obj} {cs : Array Value} {t : TypeId} (hb : Below ((w.alloc A).alloc (.cells cs t)).drew.heap.size ((w.alloc A).alloc (.cells cs t)).drew w2) : w2.heap[w.heap.size + 1]? = some (.cells cs t (0, 0)) := by
 rw [hb.block (w.heap.size + 1) (by show w.heap.size + 1 < ((w.alloc A).alloc (.cells cs t)).heap.size; simp)]
 have h := blk_new (w.alloc A) (.cells cs t)
 have e : (w.alloc A).heap.size = w.heap.size + 1 := by simp
 rw [e] at h
 exact h
theorem tok_cells {w : World} {g : Nat} {t : TypeId} {a b c d e : Value} (h : w.heap[g]? = some (.cells #[a, b, c, d, e] t (0, 0))) : w.cell? ⟨g, 0, none⟩ = some a ∧ w.cell? ⟨g, 1, none⟩ = some b ∧ w.cell? ⟨g, 2, none⟩ = some c ∧ w.cell? ⟨g, 3, none⟩ = some d ∧ w.cell? ⟨g, 4, none⟩ = some e :=
 ⟨by rw [blk_cell h]; rfl, by rw [blk_cell h]; rfl, by rw [blk_cell h]; rfl, by rw [blk_cell h]; rfl, by rw [blk_cell h]; rfl⟩
theorem next_beh (s : ByteArray) (a : Nat) (ha : a ≤ s.size) : tksAt s.data.toList (tk1 s.size (tksAt s.data.toList a)).beh = (tksAt s.data.toList a).tail ∧ (tk1 s.size (tksAt s.data.toList a)).beh ≤ s.size := by
 obtain ⟨h1, h2⟩ := tks_skip s s.size a (by omega)
 have hnl := nbl_le (s.data.toList.drop a)
 rw [List.length_drop, size_list] at hnl
 rw [← h1]
 obtain ⟨p, hp⟩ : ∃ p, p = a + nbl (s.data.toList.drop a) := ⟨_, rfl⟩
 rw [← hp]
 have h3 : ∀ h : p < s.size, blankB s[p] = false := by subst hp; exact h2
 by_cases hlt : p < s.size
 ·have ht := tks_tok s p hlt (h3 hlt)
  rw [ht]
  have hlen := tkAt_len s p hlt
  have hle := tokenOf_le (s.data.toList.drop p) (by rw [drop_cons s p hlt]; simp)
  rw [List.length_drop, size_list] at hle
  have hb : (tk1 s.size (tkAt s p :: tksAt s.data.toList (p + (tokenOf (s.data.toList.drop p)).1))).beh = p + (tokenOf (s.data.toList.drop p)).1 := by
   show (tkAt s p).at_ + (tkAt s p).s.length = _
   rw [hlen]; rfl
  rw [hb]
  exact ⟨rfl, by omega⟩
 ·have ht := tks_end s p (by omega)
  rw [ht]
  exact ⟨tks_end s s.size (Nat.le_refl _), Nat.le_refl _⟩
theorem take_meet_b {w w2 : World} {T : TN} {A : Array Value} {t : TypeId} (hb : Below ((w.alloc (.cells A t)).drew).heap.size ((w.alloc (.cells A t)).drew) w2) :
  ∃ g, w.heap.size < g ∧ Value.pointer (some ⟨w2.heap.size, 0, none⟩) = .pointer (some ⟨g, 0, none⟩) ∧ (w2.alloc (.cells #[.int .i64 T.kind, .int .i64 T.at_, .int .i64 T.beh, .string (bs T.word), .int .i64 T.num] t)).heap[g]? = some (.cells #[.int .i64 T.kind, .int .i64 T.at_, .int .i64 T.beh, .string (bs T.word), .int .i64 T.num] t (0, 0)) ∧
   (w2.alloc (.cells #[.int .i64 T.kind, .int .i64 T.at_, .int .i64 T.beh, .string (bs T.word), .int .i64 T.num] t)).heap[w.heap.size]? = some (.cells A t (0, 0)) ∧ Below w.heap.size w (w2.alloc (.cells #[.int .i64 T.kind, .int .i64 T.at_, .int .i64 T.beh, .string (bs T.word), .int .i64 T.num] t)) := by
 have hs : w.heap.size + 1 ≤ w2.heap.size := by have := hb.size; simpa using this
 have h0 : w2.heap[w.heap.size]? = some (.cells A t (0, 0)) := by
  rw [hb.block w.heap.size (by show w.heap.size < (w.alloc (.cells A t)).heap.size; simp)]
  exact blk_new w (.cells A t)
 refine ⟨w2.heap.size, by omega, rfl, blk_new _ _, blk_alloc _ h0, ?_⟩
 have h1 : Below w.heap.size w (w.alloc (.cells A t)).drew := ((Below.refl _ w).alloc (Nat.le_refl _) (.cells A t)).trans ⟨rfl, rfl, rfl, Nat.le_refl _, fun _ _ => rfl⟩
 exact (h1.trans (hb.mono (by show w.heap.size ≤ (w.alloc (.cells A t)).heap.size; simp))).alloc (by omega) _
theorem take_meet_a {w w2 : World} {T : TN} {A : Array Value} {a b c d e : Value} {t : TypeId} (hb : Below ((w.alloc (.cells A t)).alloc (.cells #[a, b, c, d, e] t)).drew.heap.size ((w.alloc (.cells A t)).alloc (.cells #[a, b, c, d, e] t)).drew w2) :
  ∃ g, w.heap.size < g ∧ Value.pointer (some ⟨w.heap.size + 1, 0, none⟩) = .pointer (some ⟨g, 0, none⟩) ∧ (((((w2.setCell ⟨w.heap.size + 1, 0, none⟩ (.int .i64 T.kind)).setCell ⟨w.heap.size + 1, 1, none⟩ (.int .i64 T.at_)).setCell ⟨w.heap.size + 1, 2, none⟩ (.int .i64 T.beh)).setCell ⟨w.heap.size + 1, 3, none⟩ (.string (bs T.word))).setCell ⟨w.heap.size + 1, 4, none⟩ (.int .i64 T.num)).heap[g]? = some (.cells #[.int .i64 T.kind, .int .i64 T.at_, .int .i64 T.beh, .string (bs T.word), .int .i64 T.num] t (0, 0)) ∧
   (((((w2.setCell ⟨w.heap.size + 1, 0, none⟩ (.int .i64 T.kind)).setCell ⟨w.heap.size + 1, 1, none⟩ (.int .i64 T.at_)).setCell ⟨w.heap.size + 1, 2, none⟩ (.int .i64 T.beh)).setCell ⟨w.heap.size + 1, 3, none⟩ (.string (bs T.word))).setCell ⟨w.heap.size + 1, 4, none⟩ (.int .i64 T.num)).heap[w.heap.size]? = some (.cells A t (0, 0)) ∧
   Below w.heap.size w (((((w2.setCell ⟨w.heap.size + 1, 0, none⟩ (.int .i64 T.kind)).setCell ⟨w.heap.size + 1, 1, none⟩ (.int .i64 T.at_)).setCell ⟨w.heap.size + 1, 2, none⟩ (.int .i64 T.beh)).setCell ⟨w.heap.size + 1, 3, none⟩ (.string (bs T.word))).setCell ⟨w.heap.size + 1, 4, none⟩ (.int .i64 T.num)) := by
 have hq := alloc2_kept hb
 have h0 : w2.heap[w.heap.size]? = some (.cells A t (0, 0)) := by
  rw [hb.block w.heap.size (by show w.heap.size < ((w.alloc (.cells A t)).alloc (.cells #[a, b, c, d, e] t)).heap.size; simp; omega)]
  exact blk_alloc _ (blk_new w (.cells A t))
 refine ⟨w.heap.size + 1, by omega, rfl, ?_, ?_, ?_⟩
 ·exact blk_set (blk_set (blk_set (blk_set (blk_set hq 0 _) 1 _) 2 _) 3 _) 4 _
 ·rw [blk_other _ _ (by simp only; omega), blk_other _ _ (by simp only; omega), blk_other _ _ (by simp only; omega), blk_other _ _ (by simp only; omega), blk_other _ _ (by simp only; omega)]
  exact h0
 ·have h1 : Below w.heap.size w ((w.alloc (.cells A t)).alloc (.cells #[a, b, c, d, e] t)).drew := (((Below.refl _ w).alloc (Nat.le_refl _) (.cells A t)).alloc (by simp) (.cells #[a, b, c, d, e] t)).trans ⟨rfl, rfl, rfl, Nat.le_refl _, fun _ _ => rfl⟩
  have h2 := h1.trans (hb.mono (by show w.heap.size ≤ ((w.alloc (.cells A t)).alloc (.cells #[a, b, c, d, e] t)).heap.size; simp; omega))
  exact ((((h2.setCell (p := ⟨w.heap.size + 1, 0, none⟩) (by simp) _).setCell (p := ⟨w.heap.size + 1, 1, none⟩) (by simp) _).setCell (p := ⟨w.heap.size + 1, 2, none⟩) (by simp) _).setCell (p := ⟨w.heap.size + 1, 3, none⟩) (by simp) _).setCell (p := ⟨w.heap.size + 1, 4, none⟩) (by simp) _
set_option maxRecDepth 100000 in
set_option maxHeartbeats 2000000 in
theorem take_any (s : ByteArray) (placed : Bool) (pb : Nat) (w : World) (sv nv ov : Value) (st : PS) (hs : s.size ≤ 9000) (h : PIn s placed pb w sv nv ov st) :
  Calls Tryz.prog 153 #[ptr pb] w fun v w' => v = .returned (tnVal (tk1 s.size st.l)) ∧ PFr pb pb w w' sv nv ov sv nv ov ∧ PIn s placed pb w' sv nv ov st.tail := by
 obtain ⟨fr, hf1, hf2, hf3⟩ := h.y
 obtain ⟨l1, l2, l3, l4⟩ := h.slt
 have hnx := fun w => Next_any s fr w hs hf1
 have hnb := next_beh s fr hf1
 rw [hf2] at hnx hnb
 have y0 : w.cell? ⟨pb, 0, none⟩ = some (.string s) := by rw [blk_cell hf3]; rfl
 have y2 : w.cell? ⟨pb, 2, none⟩ = some (.int .i64 fr) := by rw [blk_cell hf3]; rfl
 have HNB : Hid _ := hnb
 have HH : Hid _ := h
 have HF3 : Hid _ := hf3
 have HL1 : Hid _ := l1
 have HL2 : Hid _ := l2
 have HL3 : Hid _ := l3
 generalize tk1 s.size st.l = T at hnx HNB
 unfold tnVal at hnx
 clear hf1 hf2 hf3 hnb h l1 l2 l3
 show Calls _ _ #[Value.pointer (some ⟨pb, 0, none⟩)] w _
 go_enter Tryz.func153, Tryz.ntmps153
 go_upto_region 1 with fail
 go_cut [3] from 4 to 12 (fun t3 wx => ∃ g, w.heap.size < g ∧ t3 = .pointer (some ⟨g, 0, none⟩) ∧ wx.heap[g]? = some (.cells #[.int .i64 T.kind, .int .i64 T.at_, .int .i64 T.beh, .string (bs T.word), .int .i64 T.num] 208 (0, 0)) ∧
   wx.heap[w.heap.size]? = some (.cells #[.int .i64 0, .int .i64 0, .int .i64 0, .string ⟨#[]⟩, .int .i64 0] 208 (0, 0)) ∧ Below w.heap.size w wx)
 case first =>
  go_region_with (go_at_call 182; refine (hnx _).mono ?_; rintro e w2 ⟨rfl, hb2⟩; (try (have hq := alloc2_kept hb2; obtain ⟨c0, c1, c2, c3, c4⟩ := tok_cells hq; have f0 := blk_free hq 0; have f1 := blk_free hq 1; have f2 := blk_free hq 2; have f3 := blk_free hq 3; have f4 := blk_free hq 4)))
  all_goals (go_wp2_with fail; go_meet)
  all_goals first
   | exact take_meet_b hb2
   | exact take_meet_a hb2
 case rest =>
 obtain ⟨g, hg, rfl, hcg, hcr, hbc⟩ := hcut
 obtain ⟨c0, c1, c2, c3, c4⟩ := tok_cells hcg
 have yc : wc.heap[pb]? = some (.cells (psCells s placed fr st.fl.isSome (st.fl.getD 0) sv nv ov) 150 (0, 0)) := by rw [hbc.block pb l4]; exact HF3.out
 have z2 : wc.cell? ⟨pb, 2, none⟩ = some (.int .i64 fr) := by rw [blk_cell yc]; rfl
 have zf2 : wc.frozen? ⟨pb, 2, none⟩ = false := blk_free yc 2
 have hgp : g ≠ pb := by omega
 have hrp : w.heap.size ≠ pb := by omega
 have hr2 : (wc.setCell ⟨pb, 2, none⟩ (.int .i64 T.beh)).heap[w.heap.size]? = some (.cells #[.int .i64 0, .int .i64 0, .int .i64 0, .string ⟨#[]⟩, .int .i64 0] 208 (0, 0)) := by
  rw [blk_other _ _ (by simp only; omega)]; exact hcr
 have HYC : Hid _ := yc
 have HBC : Hid _ := hbc
 have hgw := blk_lt hcg
 clear yc hbc hcr hcg y0 y2 hnx
 go_wp2_with (refine st_row rfl 208 (.tmp 2) (.tmp 18) rfl w.heap.size #[.int .i64 T.kind, .int .i64 T.at_, .int .i64 T.beh, .string (bs T.word), .int .i64 T.num] rfl rfl 208 _ hr2 Tryz.infoTN rfl (tn_one T) ?_; intro W hW hWs hWo hW1 hW2 hW3)
 obtain ⟨d0, d1, d2, d3, d4⟩ := tok_cells hW
 refine bodyPost_ret (v := .agg #[.int .i64 T.kind, .int .i64 T.at_, .int .i64 T.beh, .string (bs T.word), .int .i64 T.num]) (by simp [results, Tryz.results153, go_sem, d0, d1, d2, d3, d4]) rfl ⟨rfl, ?_, ?_⟩
 ·have hb := HBC.out
  refine ⟨hW1.trans hb.os, hW2.trans hb.tape, hW3.trans hb.output, by rw [hWs]; simp only [World.setCell, Array.size_modify]; exact hb.size, ?_, fun _ h => Or.inl h, fun _ h => Or.inl h, fun _ h => Or.inl h⟩
  intro k hk hkp _ _ _ _
  rw [hWo k (by omega), blk_other _ _ (by simpa using hkp)]
  exact hb.block k hk
 ·have kp : ∀ k, k < w.heap.size → k ≠ pb → W.heap[k]? = w.heap[k]? := by
   intro k hk hkp
   rw [hWo k (by omega), blk_other _ _ (by simpa using hkp)]
   exact HBC.out.block k hk
  refine PIn.move HH.out st.tail.l st.tail.fl (fun k hk => kp k (HL1.out k hk) (fun e => HH.out.sy (by rw [hk, e]))) (fun k hk => kp k (HL2.out k hk) (fun e => HH.out.ny (by rw [hk, e]))) (fun k hk => kp k (HL3.out k hk) (fun e => HH.out.oy (by rw [hk, e]))) ⟨T.beh, HNB.out.2, HNB.out.1, ?_⟩
  rw [hWo pb (by omega)]
  exact blk_set HYC.out 2 _
set_option maxRecDepth 100000 in
set_option maxHeartbeats 2000000 in
theorem fail_any (s : ByteArray) (placed : Bool) (pb : Nat) (w : World) (sv nv ov : Value) (st : PS) (a : Nat) (h : PIn s placed pb w sv nv ov st) :
  Calls Tryz.prog 154 #[ptr pb, .int .i64 a] w fun v w' => v = .returned (.tuple #[]) ∧ PFr pb pb w w' sv nv ov sv nv ov ∧ PIn s placed pb w' sv nv ov (st.fail a) := by
 obtain ⟨fr, hf1, hf2, hf3⟩ := h.y
 have y0 : w.cell? ⟨pb, 0, none⟩ = some (.string s) := by rw [blk_cell hf3]; rfl
 have y2 : w.cell? ⟨pb, 2, none⟩ = some (.int .i64 fr) := by rw [blk_cell hf3]; rfl
 have y3 : w.cell? ⟨pb, 3, none⟩ = some (.bool st.fl.isSome) := by rw [blk_cell hf3]; rfl
 have y4 : w.cell? ⟨pb, 4, none⟩ = some (.int .i64 (st.fl.getD 0)) := by rw [blk_cell hf3]; rfl
 have g2 : w.frozen? ⟨pb, 2, none⟩ = false := blk_free hf3 2
 have g3 : w.frozen? ⟨pb, 3, none⟩ = false := blk_free hf3 3
 have g4 : w.frozen? ⟨pb, 4, none⟩ = false := blk_free hf3 4
 have HH : Hid _ := h
 have HF3 : Hid _ := hf3
 have hpb := blk_lt hf3
 clear hf1 hf2 hf3 h
 show Calls _ _ #[Value.pointer (some ⟨pb, 0, none⟩), _] w _
 cases hfl : st.fl with
 | some q =>
  have e : st.fail a = st := by unfold PS.fail; rw [hfl]
  rw [hfl] at y3 y4
  rw [e]
  simp only [Option.isSome_some] at y3
  clear e hfl
  go_enter Tryz.func154, Tryz.ntmps154
  go_wp2
  refine bodyPost_ret (v := .tuple #[]) (by simp [results, Tryz.results154, go_sem]) rfl ⟨rfl, PFr.refl _ _ _ _ _ _, HH.out⟩
 | none =>
  have e : st.fail a = { st with l := [], fl := some a } := by unfold PS.fail; rw [hfl]
  rw [hfl] at y3 y4
  rw [e]
  simp only [Option.isSome_none] at y3
  have HFL : Hid _ := hfl
  clear e hfl
  go_enter Tryz.func154, Tryz.ntmps154
  go_wp2
  refine bodyPost_end (v := .tuple #[]) (by simp [results, Tryz.results154, go_sem]) rfl ⟨rfl, ?_, ?_⟩
  ·refine ⟨rfl, rfl, rfl, by simp [World.setCell], ?_, fun _ h => Or.inl h, fun _ h => Or.inl h, fun _ h => Or.inl h⟩
   intro k hk hkp _ _ _ _
   rw [blk_other _ _ (by simpa using hkp), blk_other _ _ (by simpa using hkp), blk_other _ _ (by simpa using hkp)]
  ·have kp : ∀ k, k ≠ pb → (((w.setCell ⟨pb, 3, none⟩ (.bool true)).setCell ⟨pb, 4, none⟩ (.int .i64 a)).setCell ⟨pb, 2, none⟩ (.int .i64 s.size)).heap[k]? = w.heap[k]? := by
    intro k hkp
    rw [blk_other _ _ (by simpa using hkp), blk_other _ _ (by simpa using hkp), blk_other _ _ (by simpa using hkp)]
   refine PIn.move HH.out [] (some a) (fun k hk => kp k (fun e => HH.out.sy (by rw [hk, e]))) (fun k hk => kp k (fun e => HH.out.ny (by rw [hk, e]))) (fun k hk => kp k (fun e => HH.out.oy (by rw [hk, e]))) ⟨s.size, Nat.le_refl _, tks_end s s.size (Nat.le_refl _), ?_⟩
   exact blk_set (blk_set (blk_set HF3.out 3 _) 4 _) 2 _
theorem res_end {s : ByteArray} {placed : Bool} {pb nb : Nat} {w w1 w2 W : World} {A : Obj} {sv nv ov sv' nv' ov' : Value} {st st' : PS} (h : PIn s placed pb w sv nv ov st) (hfr : PFr pb nb (w.alloc A) w1 sv nv ov sv' nv' ov') (hin : PIn s placed pb w1 sv' nv' ov' st')
  (hb : Below w1.heap.size w1 w2) (hWs : W.heap.size = w2.heap.size) (hWo : ∀ k, k ≠ w.heap.size → W.heap[k]? = w2.heap[k]?) (e1 : W.os = w2.os) (e2 : W.tape = w2.tape) (e3 : W.output = w2.output) :
  PFr pb nb w W sv nv ov sv' nv' ov' ∧ PIn s placed pb W sv' nv' ov' st' := by
 obtain ⟨l1, l2, l3, l4⟩ := h.slt
 have hsz : w.heap.size + 1 ≤ w1.heap.size := by have := hfr.size; simpa using this
 have hbs := hb.size
 have f0 : PFr pb nb w w1 sv nv ov sv' nv' ov' := (PFr.below pb nb sv nv ov ((Below.refl _ w).alloc (Nat.le_refl _) A)).trans hfr
 have f1 := f0.trans (PFr.below pb nb sv' nv' ov' hb)
 refine ⟨⟨e1.trans f1.os, e2.trans f1.tape, e3.trans f1.output, by rw [hWs]; exact f1.size, fun k hk hp hn a b c => by rw [hWo k (by omega)]; exact f1.blk k hk hp hn a b c, f1.s, f1.n, f1.o⟩, ?_⟩
 obtain ⟨m1, m2, m3, m4⟩ := hin.slt
 have hal : (w.alloc A).heap.size = w.heap.size + 1 := by simp
 have kp : ∀ k, k < w1.heap.size → k ≠ w.heap.size → W.heap[k]? = w1.heap[k]? := fun k hk hne => by rw [hWo k hne]; exact hb.block k hk
 obtain ⟨fr, y1, y2, y3⟩ := hin.y
 refine PIn.move hin st'.l st'.fl (fun k hk => kp k (m1 k hk) ?_) (fun k hk => kp k (m2 k hk) ?_) (fun k hk => kp k (m3 k hk) ?_) ⟨fr, y1, y2, by rw [kp pb m4 (by omega)]; exact y3⟩
 ·rcases hfr.s k hk with e | e
  ·have := l1 k e; omega
  ·omega
 ·rcases hfr.n k hk with e | e
  ·have := l2 k e; omega
  ·omega
 ·rcases hfr.o k hk with e | e
  ·have := l3 k e; omega
  ·omega
theorem PFr.newBlk {pb nb : Nat} {w w1 : World} {A : Obj} {sv nv ov sv' nv' ov' : Value} (hfr : PFr pb nb (w.alloc A) w1 sv nv ov sv' nv' ov') (l1 : ∀ k, sv.ownBlock = some k → k < w.heap.size) (l2 : ∀ k, nv.ownBlock = some k → k < w.heap.size) (l3 : ∀ k, ov.ownBlock = some k → k < w.heap.size) (l4 : pb < w.heap.size) (l5 : nb < w.heap.size) :
  w1.heap[w.heap.size]? = some A := by
 rw [hfr.blk w.heap.size (by simp) (by omega) (by omega) (fun e => by have := l1 _ e; omega) (fun e => by have := l2 _ e; omega) (fun e => by have := l3 _ e; omega)]
 exact blk_new _ _
set_option maxRecDepth 100000 in
set_option maxHeartbeats 2000000 in
theorem expect_any (s : ByteArray) (placed : Bool) (pb : Nat) (w : World) (sv nv ov : Value) (st : PS) (k : Nat) (hs : s.size ≤ 9000) (h : PIn s placed pb w sv nv ov st) :
  Calls Tryz.prog 124 #[ptr pb, .int .i64 k] w fun v w' => v = .returned (tnVal (tk1 s.size st.l)) ∧ PFr pb pb w w' sv nv ov sv nv ov ∧ PIn s placed pb w' sv nv ov (st.expect s.size k) := by
 have htk := fun w h => take_any s placed pb w sv nv ov st hs h
 have hfa := fun w a h => fail_any s placed pb w sv nv ov st.tail a h
 have HH : Hid _ := h
 obtain ⟨l1, l2, l3, l4⟩ := h.slt
 have HL1 : Hid _ := l1
 have HL2 : Hid _ := l2
 have HL3 : Hid _ := l3
 have hex : st.expect s.size k = if (tk1 s.size st.l).kind ≠ k then st.tail.fail (tk1 s.size st.l).at_ else st.tail := rfl
 rw [hex]
 clear hex l1 l2 l3 h
 generalize tk1 s.size st.l = T at htk
 unfold tnVal ptr at htk
 unfold ptr at hfa
 have ha : PIn s placed pb (w.alloc (.cells #[.int .i64 0, .int .i64 0, .int .i64 0, .string ⟨#[]⟩, .int .i64 0] 208)) sv nv ov st := HH.out.below ((Below.refl _ w).alloc (Nat.le_refl _) _)
 have htk' := htk _ ha
 show Calls _ _ #[Value.pointer (some ⟨pb, 0, none⟩), _] w _
 clear htk ha
 by_cases hk : T.kind = k
 ·have hkb : ((T.kind : Int) != (k : Int)) = false := by simp [hk]
  rw [if_neg (by simp [hk])]
  clear hk hfa
  go_enter Tryz.func124, Tryz.ntmps124
  go_wp2_with fail
  refine htk'.mono ?_
  rintro _ w1 ⟨rfl, hfr, hin⟩
  have hs1 : w.heap.size + 1 ≤ w1.heap.size := by have := hfr.size; simpa using this
  have hrb : w1.heap[w.heap.size]? = some (.cells #[.int .i64 0, .int .i64 0, .int .i64 0, .string ⟨#[]⟩, .int .i64 0] 208 (0, 0)) := by
   rw [hfr.blk w.heap.size (by simp) (by omega) (by omega) (fun e => by have := HL1.out _ e; omega) (fun e => by have := HL2.out _ e; omega) (fun e => by have := HL3.out _ e; omega)]
   exact blk_new _ _
  have hrb2 := blk_alloc (.cells #[.int .i64 T.kind, .int .i64 T.at_, .int .i64 T.beh, .string (bs T.word), .int .i64 T.num] 208) hrb
  have HFR : Hid _ := hfr
  have HIN : Hid _ := hin
  have hgne : w.heap.size ≠ w1.heap.size := by omega
  clear hfr hin hrb htk'
  go_wp2_with (refine st_row rfl 208 (.tmp 4) (.tmp 16) rfl w.heap.size #[.int .i64 T.kind, .int .i64 T.at_, .int .i64 T.beh, .string (bs T.word), .int .i64 T.num] rfl rfl 208 _ hrb2 Tryz.infoTN rfl (tn_one T) ?_; intro W hW hWs hWo hW1 hW2 hW3)
  obtain ⟨d0, d1, d2, d3, d4⟩ := tok_cells hW
  refine bodyPost_ret (v := .agg #[.int .i64 T.kind, .int .i64 T.at_, .int .i64 T.beh, .string (bs T.word), .int .i64 T.num]) (by simp [results, Tryz.results124, go_sem, d0, d1, d2, d3, d4]) rfl ⟨rfl, res_end HH.out HFR.out HIN.out ((Below.refl _ w1).alloc (Nat.le_refl _) _) hWs hWo hW1 hW2 hW3⟩
 ·have hkb : ((T.kind : Int) != (k : Int)) = true := by simp; omega
  rw [if_pos hk]
  clear hk
  go_enter Tryz.func124, Tryz.ntmps124
  go_wp2_with fail
  refine htk'.mono ?_
  rintro _ w1 ⟨rfl, hfr, hin⟩
  have hrb := hfr.newBlk HL1.out HL2.out HL3.out l4 l4
  have hs1 : w.heap.size + 1 ≤ w1.heap.size := by have := hfr.size; simpa using this
  have HFR : Hid _ := hfr
  have HIN : Hid _ := hin
  have hgne : w.heap.size ≠ w1.heap.size := by omega
  clear hfr hin htk'
  go_wp2_with fail
  refine (hfa _ T.at_ (HIN.out.below ((Below.refl _ w1).alloc (Nat.le_refl _) _))).mono ?_
  rintro _ w3 ⟨rfl, hfr3, hin3⟩
  have hlt := HIN.out.slt
  have hq := hfr3.newBlk hlt.1 hlt.2.1 hlt.2.2.1 hlt.2.2.2 hlt.2.2.2
  obtain ⟨c0, c1, c2, c3, c4⟩ := tok_cells hq
  have hrb3 : w3.heap[w.heap.size]? = some (.cells #[.int .i64 0, .int .i64 0, .int .i64 0, .string ⟨#[]⟩, .int .i64 0] 208 (0, 0)) := by
   rw [hfr3.blk w.heap.size (by simp; omega) (by omega) (by omega) (fun e => by have := HL1.out _ e; omega) (fun e => by have := HL2.out _ e; omega) (fun e => by have := HL3.out _ e; omega)]
   exact blk_alloc _ hrb
  have HF3 : Hid _ := HFR.out.trans ((PFr.below pb pb sv nv ov ((Below.refl _ w1).alloc (Nat.le_refl _) _)).trans hfr3)
  have HIN3 : Hid _ := hin3
  clear hfr3 hin3 hq hlt hrb
  go_wp2_with (refine st_row rfl 208 (.tmp 4) (.tmp 16) rfl w.heap.size #[.int .i64 T.kind, .int .i64 T.at_, .int .i64 T.beh, .string (bs T.word), .int .i64 T.num] rfl rfl 208 _ hrb3 Tryz.infoTN rfl (tn_one T) ?_; intro W hW hWs hWo hW1 hW2 hW3)
  obtain ⟨d0, d1, d2, d3, d4⟩ := tok_cells hW
  refine bodyPost_ret (v := .agg #[.int .i64 T.kind, .int .i64 T.at_, .int .i64 T.beh, .string (bs T.word), .int .i64 T.num]) (by simp [results, Tryz.results124, go_sem, d0, d1, d2, d3, d4]) rfl ⟨rfl, res_end HH.out HF3.out HIN3.out (Below.refl _ _) hWs hWo hW1 hW2 hW3⟩
end Go.Proofs.YtpicaknklgccoaaGreatDoor
