import Derived.Test.YtpicaknklgccoaaDoorX10
import Derived.Test.YtpicaknklgccoaaDoorX2
import Derived.Test.YtpicaknklgccoaaDoorX1
import Derived.Laws.Tables
namespace Go.Proofs.YtpicaknklgccoaaDoor
open Go.RowKit
def tnVal (t : TN) : Value := .agg #[.int .i64 t.kind, .int .i64 t.at_, .int .i64 t.beh, .string (bs t.word), .int .i64 t.num]
theorem bA_let (s : ByteArray) (k : Nat) (lo hi : Int) (hlo : 0 < lo) : (inB lo hi (bA s k) = true ∧ k < s.size ∧ run lo hi (s.data.toList.drop k) = run lo hi (s.data.toList.drop (k + 1)) + 1) ∨ (inB lo hi (bA s k) = false ∧ run lo hi (s.data.toList.drop k) = 0) := by
 by_cases h : k < s.size
 ·rw [bA_in s k h, drop_cons s k h]
  cases hb : inB lo hi s[k] with
  | true => left; exact ⟨rfl, h, by simp [run, hb]⟩
  | false => right; exact ⟨rfl, by simp [run, hb]⟩
 ·right
  rw [bA_out s k (by omega), drop_end s k (by omega)]
  refine ⟨?_, rfl⟩
  unfold inB
  have h0 : ((0 : UInt8).toNat : Int) = 0 := rfl
  rw [h0, decide_eq_false (by omega : ¬ lo ≤ 0)]; rfl
theorem wordCl_small (l : List UInt8) (n : Nat) (h : n ≤ 8) : wordCl l n = wordCl l 0 := by
 unfold wordCl; cases kwOf l <;> simp [h]
theorem wordCl_big (l : List UInt8) (h : 8 < l.length) : wordCl l l.length = .bad := by
 unfold wordCl
 cases hk : kwOf l with
 | none => simp; omega
 | some k =>
  have := kwOf_some hk
  rw [this] at h
  clear this hk
  revert h
  cases k <;> simp [Kw.bytes]
set_option maxRecDepth 100000 in
set_option maxHeartbeats 1000000 in
theorem readWord_any (s : ByteArray) (a n : Nat) (w : World) (hs : s.size ≤ 9000) (hn : n = run 97 122 (s.data.toList.drop a)) (ha : a + n ≤ s.size) :
  Calls Tryd.prog 107 #[.string s, .int .i64 a] w fun e w' => e = .returned (tnVal ⟨kindN (wordCl ((s.data.toList.drop a).take n) n), a, a + n, if n ≤ 8 then (s.data.toList.drop a).take n else [], 0⟩) ∧ Below w.heap.size w w' := by
 have hby := fun k (h : k ≤ 10000) w => byteAt_any s k w h
 have HN : Hid _ := hn
 clear hn
 go_enter Tryd.func107, Tryd.ntmps107
 go_wp2
 go_loop [5] (fun i => ∃ k j : Nat, k ≤ n ∧ Hid (j = a + k) ∧ j ≤ s.size ∧ i = .int .i64 j ∧ Hid (n = k + run 97 122 (s.data.toList.drop j))) (fun i => s.size - (intOf i).toNat)
 case atStart => exact ⟨0, a, by omega, (rfl : a = a + 0), by omega, rfl, (by rw [← HN.out]; omega : n = 0 + run 97 122 (s.data.toList.drop a))⟩
 case round =>
  obtain ⟨k, j, hk, HJ, hjs, rfl, HR⟩ := hrel
  have hbk := hby j (by omega)
  have hil := fun w => isLetter_any (bA s j) w
  rcases bA_let s j 97 122 (by decide) with ⟨h1, h2, h3⟩ | ⟨h1, h2⟩
  ·rw [h1] at hil
   have H3 : Hid _ := h3
   clear h1 h3
   go_wp2_with (first
    | (go_at_call 105; refine (hbk _).mono ?_; rintro e w' ⟨rfl, rfl⟩)
    | (go_at_call 106; refine (hil _).mono ?_; rintro e w' ⟨rfl, rfl⟩))
   go_round
   case rel => exact ⟨k + 1, j + 1, by have h := HR.out; rw [H3.out] at h; omega, (by have h := HJ.out; omega : j + 1 = a + (k + 1)), by omega, by go_num, (by have h := HR.out; rw [H3.out] at h; omega : n = (k + 1) + run 97 122 (s.data.toList.drop (j + 1)))⟩
   case measure => simp [intOf]; omega
  ·rw [h1] at hil
   have hkn : k = n := by have h := HR.out; rw [h2] at h; omega
   have hja : j = a + n := by rw [← hkn]; exact HJ.out
   clear h1 h2 HR
   have hcu := fun w => cut_any s a j w (by omega) hjs
   have hkd := fun w => kindOf_any (s.extract a j) w
   have hex : (s.extract a j).data.toList = (s.data.toList.drop a).take n := by rw [hja, ext_of]
   rw [hex] at hkd
   have HEX : Hid _ := bs_eq hex
   have HJ' : Hid (j = a + n) := hja
   have hjk : (j : Int) - (a : Int) = (n : Int) := by omega
   clear hex hja hkn HJ hk
   by_cases h8 : n ≤ 8
   ·have H8 : Hid (n ≤ 8) := h8
    go_wp2_with (first
     | (go_at_call 105; refine (hbk _).mono ?_; rintro e w' ⟨rfl, rfl⟩)
     | (go_at_call 106; refine (hil _).mono ?_; rintro e w' ⟨rfl, rfl⟩)
     | (go_at_call 118; refine (hcu _).mono ?_; rintro e w' ⟨rfl, rfl⟩)
     | (go_at_call 119; refine (hkd _).mono ?_; rintro e w' ⟨rfl, rfl⟩))
    refine bodyPost_ret (v := .agg #[.int .i64 ((kindN (wordCl ((s.data.toList.drop a).take n) 0) : Nat) : Int), .int .i64 a, .int .i64 j, .string (s.extract a j), .int .i64 0]) (by simp [results, Tryd.results107, go_sem]) rfl ⟨?_, (Below.refl _ _).alloc (Nat.le_refl _) _⟩
    rw [HEX.out, HJ'.out, wordCl_small _ _ H8.out]; first | rfl | (rw [if_pos H8.out]; rfl)
   ·have H8 : Hid (¬ n ≤ 8) := h8
    have hlen : ((s.data.toList.drop a).take n).length = n := by simp; omega
    have HB : Hid (wordCl ((s.data.toList.drop a).take n) n = .bad) := by
     have := wordCl_big ((s.data.toList.drop a).take n) (by omega)
     rw [hlen] at this; exact this
    clear hlen
    go_wp2_with (first
     | (go_at_call 105; refine (hbk _).mono ?_; rintro e w' ⟨rfl, rfl⟩)
     | (go_at_call 106; refine (hil _).mono ?_; rintro e w' ⟨rfl, rfl⟩))
    refine bodyPost_ret (v := .agg #[.int .i64 1, .int .i64 a, .int .i64 j, .string ⟨#[]⟩, .int .i64 0]) (by simp [results, Tryd.results107, go_sem]) rfl ⟨?_, (Below.refl _ _).alloc (Nat.le_refl _) _⟩
    rw [HB.out, HJ'.out]; first | rfl | (rw [if_neg H8.out]; rfl)
theorem run_mem (lo hi : Int) (l : List UInt8) : ∀ c ∈ l.take (run lo hi l), inB lo hi c = true := by
 induction l with
 | nil => simp
 | cons c r ih =>
  simp only [run]
  by_cases h : inB lo hi c = true
  ·rw [if_pos h, List.take_succ_cons]
   intro x hx
   rcases List.mem_cons.1 hx with rfl | hx
   ·exact h
   ·exact ih x hx
  ·rw [if_neg h]; simp
def numTN (l : List UInt8) (most kind a d n : Nat) : TN := if numeralB (l.take n) most then ⟨kind, a, d + n, [], valueL (l.take n)⟩ else ⟨1, a, d + n, [], 0⟩
set_option maxRecDepth 100000 in
set_option maxHeartbeats 2000000 in
theorem readNumber_any (s : ByteArray) (a d n most kind : Nat) (w : World) (hs : s.size ≤ 9000) (hn : n = run 48 57 (s.data.toList.drop d)) (ha : d + n ≤ s.size) (hm : 3 ≤ most ∧ most ≤ 4) :
  Calls Tryd.prog 109 #[.string s, .int .i64 a, .int .i64 d, .int .i64 most, .int .i64 kind] w fun e w' => e = .returned (tnVal (numTN (s.data.toList.drop d) most kind a d n)) ∧ Below w.heap.size w w' := by
 have hby := fun k (h : k ≤ 10000) w => byteAt_any s k w h
 have hdig : ∀ c ∈ (s.data.toList.drop d).take n, c ≠ 35 := by
  rw [hn]; intro c hc e
  have := run_mem 48 57 _ c hc
  rw [e] at this; revert this; decide
 have HDIG : Hid _ := hdig
 have HN : Hid _ := hn
 have hlen : ((s.data.toList.drop d).take n).length = n := by simp; omega
 have hhead : 0 < n → ((s.data.toList.drop d).take n).head? = some (bA s d) := by
  intro h0
  rw [bA_in s d (by omega), drop_cons s d (by omega)]
  obtain ⟨m, rfl⟩ : ∃ m, n = m + 1 := ⟨n - 1, by omega⟩
  simp
 have hnum : numeralB ((s.data.toList.drop d).take n) most = (decide (0 < n) && decide (n ≤ most) && (decide (n = 1) || (((s.data.toList.drop d).take n).head? != some 48))) := by unfold numeralB; rw [hlen]
 have HNUM : Hid _ := hnum
 have HHEAD : Hid _ := hhead
 clear hn hdig hlen hnum hhead
 go_enter Tryd.func109, Tryd.ntmps109
 go_wp2
 go_loop [11] (fun i => ∃ k j : Nat, k ≤ n ∧ Hid (j = d + k) ∧ j ≤ s.size ∧ i = .int .i64 j ∧ Hid (n = k + run 48 57 (s.data.toList.drop j))) (fun i => s.size - (intOf i).toNat)
 case atStart => exact ⟨0, d, by omega, (rfl : d = d + 0), by omega, rfl, (by rw [← HN.out]; omega : n = 0 + run 48 57 (s.data.toList.drop d))⟩
 case round =>
  obtain ⟨k, j, hk, HJ, hjs, rfl, HR⟩ := hrel
  have hbk := hby j (by omega)
  have hil := fun w => isDigit_any (bA s j) w
  rcases bA_let s j 48 57 (by decide) with ⟨h1, h2, h3⟩ | ⟨h1, h2⟩
  ·rw [h1] at hil
   have H3 : Hid _ := h3
   clear h1 h3
   go_wp2_with (first
    | (go_at_call 105; refine (hbk _).mono ?_; rintro e w' ⟨rfl, rfl⟩)
    | (go_at_call 108; refine (hil _).mono ?_; rintro e w' ⟨rfl, rfl⟩))
   go_round
   case rel => exact ⟨k + 1, j + 1, by have h := HR.out; rw [H3.out] at h; omega, (by have h := HJ.out; omega : j + 1 = d + (k + 1)), by omega, by go_num, (by have h := HR.out; rw [H3.out] at h; omega : n = (k + 1) + run 48 57 (s.data.toList.drop (j + 1)))⟩
   case measure => simp [intOf]; omega
  ·rw [h1] at hil
   have hkn : k = n := by have h := HR.out; rw [h2] at h; omega
   have hja : j = d + n := by rw [← hkn]; exact HJ.out
   clear h1 h2 HR
   have HJ' : Hid (j = d + n) := hja
   have hjk : (j : Int) - (d : Int) = (n : Int) := by omega
   have hbd := hby d (by omega)
   have e48 : (((bA s d).toNat : Int) == 48) = (bA s d == 48) := byte_eq (bA s d) 48
   have HE48 : Hid _ := e48
   clear hja hkn HJ hk e48
   by_cases c0 : n = 0
   ·have b0 : ((n : Int) == 0) = true := by rw [c0]; rfl
    have HF : Hid (numTN (s.data.toList.drop d) most kind a d n = ⟨1, a, d + n, [], 0⟩) := by
     have : numeralB ((s.data.toList.drop d).take n) most = false := by rw [HNUM.out]; simp [c0]
     unfold numTN; rw [this]; rfl
    have c0' : n < 1 := by omega
    clear c0
    go_wp2_with (first
     | (go_at_call_of 105 (Value.int IntKind.i64 (j : Int)); refine (hbk _).mono ?_; rintro e w' ⟨rfl, rfl⟩)
     | (go_at_call_of 105 (Value.int IntKind.i64 (d : Int)); refine (hbd _).mono ?_; rintro e w' ⟨rfl, rfl⟩)
     | (go_at_call 108; refine (hil _).mono ?_; rintro e w' ⟨rfl, rfl⟩)
     | (go_at_call 120; refine (hva _).mono ?_; rintro e w' ⟨rfl, rfl⟩))
    refine bodyPost_ret (v := .agg #[.int .i64 1, .int .i64 a, .int .i64 j, .string ⟨#[]⟩, .int .i64 0]) (by simp [results, Tryd.results109, go_sem]) rfl ⟨?_, (Below.refl _ _).alloc (Nat.le_refl _) _⟩
    rw [HF.out, HJ'.out]; rfl
   ·have b0 : ((n : Int) == 0) = false := by rw [beq_eq_false_iff_ne]; omega
    have c1 : 1 ≤ n := by omega
    have hh := HHEAD.out (by omega)
    by_cases cm : n ≤ most
    ·have hva := fun w => valueOf_any s d n j w hs HJ'.out hjs (by omega) HDIG.out
     by_cases c2 : n = 1
     ·have HF : Hid (numTN (s.data.toList.drop d) most kind a d n = ⟨kind, a, d + n, [], valueL ((s.data.toList.drop d).take n)⟩) := by
       have : numeralB ((s.data.toList.drop d).take n) most = true := by rw [HNUM.out]; simp [c2]; omega
       unfold numTN; rw [this]; rfl
      have c2' : n < 2 := by omega
      clear c2 hh c0
      go_wp2_with (first
       | (go_at_call_of 105 (Value.int IntKind.i64 (j : Int)); refine (hbk _).mono ?_; rintro e w' ⟨rfl, rfl⟩)
       | (go_at_call_of 105 (Value.int IntKind.i64 (d : Int)); refine (hbd _).mono ?_; rintro e w' ⟨rfl, rfl⟩)
       | (go_at_call 108; refine (hil _).mono ?_; rintro e w' ⟨rfl, rfl⟩)
       | (go_at_call 120; refine (hva _).mono ?_; rintro e w' ⟨rfl, rfl⟩))
      refine bodyPost_ret (v := .agg #[.int .i64 kind, .int .i64 a, .int .i64 j, .string ⟨#[]⟩, .int .i64 (valueL ((s.data.toList.drop d).take n))]) (by simp [results, Tryd.results109, go_sem]) rfl ⟨?_, (Below.refl _ _).alloc (Nat.le_refl _) _⟩
      rw [HF.out, HJ'.out]; rfl
     ·cases e0 : (bA s d == 48) with
      | true =>
       have b48 : (((bA s d).toNat : Int) == 48) = true := by rw [HE48.out]; exact e0
       have HF : Hid (numTN (s.data.toList.drop d) most kind a d n = ⟨1, a, d + n, [], 0⟩) := by
        have h48 : bA s d = 48 := by simpa using e0
        have : numeralB ((s.data.toList.drop d).take n) most = false := by rw [HNUM.out, hh, h48]; simp [c2]
        unfold numTN; rw [this]; rfl
       have c2' : 1 < n := by omega
       clear c2 hh c0 e0
       go_wp2_with (first
        | (go_at_call_of 105 (Value.int IntKind.i64 (j : Int)); refine (hbk _).mono ?_; rintro e w' ⟨rfl, rfl⟩)
        | (go_at_call_of 105 (Value.int IntKind.i64 (d : Int)); refine (hbd _).mono ?_; rintro e w' ⟨rfl, rfl⟩)
        | (go_at_call 108; refine (hil _).mono ?_; rintro e w' ⟨rfl, rfl⟩)
        | (go_at_call 120; refine (hva _).mono ?_; rintro e w' ⟨rfl, rfl⟩))
       refine bodyPost_ret (v := .agg #[.int .i64 1, .int .i64 a, .int .i64 j, .string ⟨#[]⟩, .int .i64 0]) (by simp [results, Tryd.results109, go_sem]) rfl ⟨?_, (Below.refl _ _).alloc (Nat.le_refl _) _⟩
       rw [HF.out, HJ'.out]; rfl
      | false =>
       have b48 : (((bA s d).toNat : Int) == 48) = false := by rw [HE48.out]; exact e0
       have HF : Hid (numTN (s.data.toList.drop d) most kind a d n = ⟨kind, a, d + n, [], valueL ((s.data.toList.drop d).take n)⟩) := by
        have h48 : bA s d ≠ 48 := by simpa using e0
        have : numeralB ((s.data.toList.drop d).take n) most = true := by rw [HNUM.out, hh]; simp [h48, cm]; omega
        unfold numTN; rw [this]; rfl
       have c2' : 1 < n := by omega
       clear c2 hh c0 e0
       go_wp2_with (first
        | (go_at_call_of 105 (Value.int IntKind.i64 (j : Int)); refine (hbk _).mono ?_; rintro e w' ⟨rfl, rfl⟩)
        | (go_at_call_of 105 (Value.int IntKind.i64 (d : Int)); refine (hbd _).mono ?_; rintro e w' ⟨rfl, rfl⟩)
        | (go_at_call 108; refine (hil _).mono ?_; rintro e w' ⟨rfl, rfl⟩)
        | (go_at_call 120; refine (hva _).mono ?_; rintro e w' ⟨rfl, rfl⟩))
       refine bodyPost_ret (v := .agg #[.int .i64 kind, .int .i64 a, .int .i64 j, .string ⟨#[]⟩, .int .i64 (valueL ((s.data.toList.drop d).take n))]) (by simp [results, Tryd.results109, go_sem]) rfl ⟨?_, (Below.refl _ _).alloc (Nat.le_refl _) _⟩
       rw [HF.out, HJ'.out]; rfl
    ·have HF : Hid (numTN (s.data.toList.drop d) most kind a d n = ⟨1, a, d + n, [], 0⟩) := by
      have : numeralB ((s.data.toList.drop d).take n) most = false := by rw [HNUM.out]; simp [cm]
      unfold numTN; rw [this]; rfl
     have c2' : 1 < n := by omega
     clear hh c0
     go_wp2_with (first
      | (go_at_call_of 105 (Value.int IntKind.i64 (j : Int)); refine (hbk _).mono ?_; rintro e w' ⟨rfl, rfl⟩)
      | (go_at_call_of 105 (Value.int IntKind.i64 (d : Int)); refine (hbd _).mono ?_; rintro e w' ⟨rfl, rfl⟩)
      | (go_at_call 108; refine (hil _).mono ?_; rintro e w' ⟨rfl, rfl⟩)
      | (go_at_call 120; refine (hva _).mono ?_; rintro e w' ⟨rfl, rfl⟩))
     refine bodyPost_ret (v := .agg #[.int .i64 1, .int .i64 a, .int .i64 j, .string ⟨#[]⟩, .int .i64 0]) (by simp [results, Tryd.results109, go_sem]) rfl ⟨?_, (Below.refl _ _).alloc (Nat.le_refl _) _⟩
     rw [HF.out, HJ'.out]; rfl
theorem st_row {P : Program} {ops : Array Oper} {rest : List Oper} {o : Oper} {a : Act} {w : World} {Q : Exit → Act → World → Prop} (hgd : o.guard = none) (ty : TypeId) (x y : Operand) (ho : o.op = .store ty x y)
  (g : Nat) (cells : Array Value) (hx : a.eval x = .pointer (some ⟨g, 0, none⟩)) (hy : a.eval y = .agg cells)
  (t : TypeId) (old : Array Value) (hg : w.heap[g]? = some (.cells old t (0, 0))) (hi : (P.info? ty).map (·.size) = some cells.size)
  (hold : old.size = cells.size) (h1 : cells.all (·.oneCell') = true)
  (h : ∀ W : World, W.heap[g]? = some (.cells cells t (0, 0)) → W.heap.size = w.heap.size → (∀ k, k ≠ g → W.heap[k]? = w.heap[k]?) → W.os = w.os → W.tape = w.tape → W.output = w.output →
   wpList P ops Q rest (a.put o.dst undef) W) : wpList P ops Q (o :: rest) a w := by
 refine wpList_store_row hgd ty x y ho g cells hx hy t old hg hi hold h1 ?_
 exact h _ (setRow_heap w g old cells t (0, 0) hg) (by simp) (fun k hk => setRow_other w g k cells hk) rfl rfl rfl
theorem below_new {B g : Nat} {w0 w W : World} (hb : Below B w0 w) (hg : B ≤ g) (hs : W.heap.size = w.heap.size) (ho : ∀ k, k ≠ g → W.heap[k]? = w.heap[k]?) (e1 : W.os = w.os) (e2 : W.tape = w.tape) (e3 : W.output = w.output) : Below B w0 W :=
 ⟨e1.trans hb.os, e2.trans hb.tape, e3.trans hb.output, by rw [hs]; exact hb.size, fun k hk => by rw [ho k (by omega)]; exact hb.block k hk⟩
theorem Tryd.infoTN : (Tryd.prog.info? 112).map (·.size) = some 5 := by kernel_rfl
theorem tn_one (T : TN) : (#[Value.int .i64 T.kind, .int .i64 T.at_, .int .i64 T.beh, .string (bs T.word), .int .i64 T.num] : Array Value).all (·.oneCell') = true := by simp [Value.oneCell']
theorem tks_blank (s : ByteArray) (k : Nat) (hk : k < s.size) (h : blankB s[k] = true) : tksAt s.data.toList k = tksAt s.data.toList (k + 1) := by
 unfold tksAt; rw [size_list]; exact toks_step_blank s k hk h
theorem tks_tok (s : ByteArray) (k : Nat) (hk : k < s.size) (h : blankB s[k] = false) : tksAt s.data.toList k = tkAt s k :: tksAt s.data.toList (k + (tokenOf (s.data.toList.drop k)).1) := by
 unfold tksAt; rw [size_list]; exact toks_step_tok s k hk h
theorem tks_end (s : ByteArray) (k : Nat) (hk : s.size ≤ k) : tksAt s.data.toList k = [] := by
 unfold tksAt; rw [size_list, show s.size - k = 0 from by omega]; rfl
theorem tks_skip (s : ByteArray) : ∀ (m a : Nat), s.size - a ≤ m → tksAt s.data.toList (a + nbl (s.data.toList.drop a)) = tksAt s.data.toList a ∧ (∀ h : a + nbl (s.data.toList.drop a) < s.size, blankB (s[a + nbl (s.data.toList.drop a)]) = false) := by
 intro m
 induction m with
 | zero =>
  intro a h
  have : nbl (s.data.toList.drop a) = 0 := by rw [drop_end s a (by omega)]; rfl
  rw [this]; exact ⟨rfl, fun h' => by omega⟩
 | succ m ih =>
  intro a h
  by_cases hlt : a < s.size
  ·cases hb : blankB s[a] with
   | true =>
    have e : a + nbl (s.data.toList.drop a) = (a + 1) + nbl (s.data.toList.drop (a + 1)) := by rw [drop_cons s a hlt]; simp [nbl, hb]; omega
    obtain ⟨h1, h2⟩ := ih (a + 1) (by omega)
    refine ⟨?_, ?_⟩
    ·rw [e, h1, tks_blank s a hlt hb]
    ·simp only [e]; exact h2
   | false =>
    have e : nbl (s.data.toList.drop a) = 0 := by rw [drop_cons s a hlt]; simp [nbl, hb]
    refine ⟨by rw [e, Nat.add_zero], ?_⟩
    simp only [e, Nat.add_zero]
    intro _; exact hb
  ·have : nbl (s.data.toList.drop a) = 0 := by rw [drop_end s a (by omega)]; rfl
   rw [this]; exact ⟨rfl, fun h' => by omega⟩
theorem tn_at (s : ByteArray) (p : Nat) (hp : p < s.size) : tnOf (tkAt s p) = ⟨kindN (tokenOf (s.data.toList.drop p)).2, p, p + (tokenOf (s.data.toList.drop p)).1, wordN (tkAt s p), numN (tkAt s p)⟩ := by
 unfold tnOf; rw [tkAt_len s p hp]; rfl
theorem run_zero (s : ByteArray) (p : Nat) (lo hi : Int) (hp : p < s.size) (h : inB lo hi s[p] = false) : run lo hi (s.data.toList.drop p) = 0 := by
 rw [drop_cons s p hp]; simp [run, h]
theorem run_pos (s : ByteArray) (p : Nat) (lo hi : Int) (hp : p < s.size) (h : inB lo hi s[p] = true) : 0 < run lo hi (s.data.toList.drop p) := by
 rw [drop_cons s p hp]; simp [run, h]
theorem tok_other (s : ByteArray) (p : Nat) (hp : p < s.size) (hl : inB 97 122 s[p] = false) (hd : inB 48 57 s[p] = false) (h35 : s[p] ≠ 35) :
  tokenOf (s.data.toList.drop p) = (1, if s[p] = 40 then .opn else if s[p] = 41 then .cls else .bad) := by
 unfold tokenOf
 rw [run_zero s p 97 122 hp hl, run_zero s p 48 57 hp hd, if_neg (by omega), if_neg (by omega), drop_cons s p hp]
 simp only
 rw [if_neg h35]
theorem tn_other (s : ByteArray) (p : Nat) (hp : p < s.size) (hl : inB 97 122 s[p] = false) (hd : inB 48 57 s[p] = false) (h35 : s[p] ≠ 35) :
  tnOf (tkAt s p) = ⟨if s[p] = 40 then 2 else if s[p] = 41 then 3 else 1, p, p + 1, [], 0⟩ := by
 have h := tok_other s p hp hl hd h35
 rw [tn_at s p hp]
 unfold wordN numN tkAt
 rw [h]
 by_cases h40 : s[p] = 40
 ·simp [h40, kindN]
 ·by_cases h41 : s[p] = 41
  ·simp [h41, kindN]
  ·simp [h40, h41, kindN]
theorem tn_word (s : ByteArray) (p n : Nat) (hp : p < s.size) (hn : n = run 97 122 (s.data.toList.drop p)) (h0 : 0 < n) :
  tnOf (tkAt s p) = ⟨kindN (wordCl ((s.data.toList.drop p).take n) n), p, p + n, if n ≤ 8 then (s.data.toList.drop p).take n else [], 0⟩ := by
 have h : tokenOf (s.data.toList.drop p) = (n, wordCl ((s.data.toList.drop p).take n) n) := by unfold tokenOf; rw [← hn, if_pos h0]
 have hlen : ((s.data.toList.drop p).take n).length = n := by
  have := run_le 97 122 (s.data.toList.drop p)
  rw [List.length_take]; omega
 rw [tn_at s p hp]
 unfold wordN numN tkAt
 rw [h]
 simp only
 by_cases h8 : n ≤ 8
 ·rw [if_pos h8]
  unfold wordCl
  cases kwOf ((s.data.toList.drop p).take n) with
  | some k => rfl
  | none => simp [h8]
 ·rw [if_neg h8]
  have := wordCl_big ((s.data.toList.drop p).take n) (by omega)
  rw [hlen] at this
  rw [this]
theorem tn_num (s : ByteArray) (p n : Nat) (hp : p < s.size) (hl : inB 97 122 s[p] = false) (hn : n = run 48 57 (s.data.toList.drop p)) (h0 : 0 < n) :
  tnOf (tkAt s p) = numTN (s.data.toList.drop p) 4 5 p p n := by
 have h : tokenOf (s.data.toList.drop p) = (n, if numeralB ((s.data.toList.drop p).take n) 4 then .num else .bad) := by
  unfold tokenOf; rw [run_zero s p 97 122 hp hl, if_neg (by omega), ← hn, if_pos h0]
 rw [tn_at s p hp]
 unfold wordN numN tkAt numTN
 rw [h]
 simp only
 cases numeralB ((s.data.toList.drop p).take n) 4 with
 | true => simp [kindN]
 | false => simp [kindN]
theorem valueL_hash (l : List UInt8) : valueL (35 :: l) = valueL l := by unfold valueL; simp
theorem tn_reg (s : ByteArray) (p n : Nat) (hp : p < s.size) (h35 : s[p] = 35) (hn : n = run 48 57 (s.data.toList.drop (p + 1))) :
  tnOf (tkAt s p) = numTN (s.data.toList.drop (p + 1)) 3 6 p (p + 1) n := by
 have hl : inB 97 122 s[p] = false := by rw [h35]; decide
 have hd : inB 48 57 s[p] = false := by rw [h35]; decide
 have h : tokenOf (s.data.toList.drop p) = (n + 1, if numeralB ((s.data.toList.drop (p + 1)).take n) 3 then .reg else .bad) := by
  unfold tokenOf
  rw [run_zero s p 97 122 hp hl, run_zero s p 48 57 hp hd, if_neg (by omega), if_neg (by omega), drop_cons s p hp]
  simp only
  rw [if_pos h35, ← hn]
 rw [tn_at s p hp]
 unfold wordN numN tkAt numTN
 rw [h]
 simp only
 have ht : (s.data.toList.drop p).take (n + 1) = 35 :: (s.data.toList.drop (p + 1)).take n := by rw [drop_cons s p hp, List.take_succ_cons, h35]
 rw [ht]
 cases numeralB ((s.data.toList.drop (p + 1)).take n) 3 with
 | true => simp [kindN, valueL_hash]; omega
 | false => simp [kindN]; omega
set_option maxRecDepth 100000 in
set_option maxHeartbeats 2000000 in
theorem Next_any (s : ByteArray) (a : Nat) (w : World) (hs : s.size ≤ 9000) (ha : a ≤ s.size) :
  Calls Tryd.prog 91 #[.string s, .int .i64 a] w fun e w' => e = .returned (tnVal (tk1 s.size (tksAt s.data.toList a))) ∧ Below w.heap.size w w' := by
 obtain ⟨hsk1, hsk2⟩ := tks_skip s s.size a (by omega)
 have hnl := nbl_le (s.data.toList.drop a)
 rw [List.length_drop, size_list] at hnl
 have hskp := fun w => skipBlanks_any s a w hs ha
 rw [← hsk1]
 obtain ⟨p, hp⟩ : ∃ p, p = a + nbl (s.data.toList.drop a) := ⟨_, rfl⟩
 have hps : p ≤ s.size := by omega
 have hsk3 : ∀ h : p < s.size, blankB s[p] = false := by subst hp; exact hsk2
 clear hsk2
 rw [← hp] at hskp ⊢
 clear hp hnl hsk1
 have hby := fun w => byteAt_any s p w (by omega)
 by_cases hlt : p < s.size
 ·have hb := hsk3 hlt
  clear hsk3
  have htk : tk1 s.size (tksAt s.data.toList p) = tnOf (tkAt s p) := by rw [tks_tok s p hlt hb]; rfl
  rw [htk]
  clear htk hb
  rw [bA_in s p hlt] at hby
  have hle := fun w => isLetter_any s[p] w
  have hdi := fun w => isDigit_any s[p] w
  have e40 : ((s[p].toNat : Int) == 40) = (s[p] == 40) := byte_eq s[p] 40
  have e41 : ((s[p].toNat : Int) == 41) = (s[p] == 41) := byte_eq s[p] 41
  have e35 : ((s[p].toNat : Int) == 35) = (s[p] == 35) := byte_eq s[p] 35
  cases hL : inB 97 122 s[p] with
  | true =>
   have d40 : ((s[p].toNat : Int) == 40) = false := by
    rw [beq_eq_false_iff_ne]; unfold inB at hL; simp only [Bool.and_eq_true, decide_eq_true_eq] at hL; omega
   have d41 : ((s[p].toNat : Int) == 41) = false := by
    rw [beq_eq_false_iff_ne]; unfold inB at hL; simp only [Bool.and_eq_true, decide_eq_true_eq] at hL; omega
   obtain ⟨n, hn⟩ : ∃ n, n = run 97 122 (s.data.toList.drop p) := ⟨_, rfl⟩
   have h0 : 0 < n := by rw [hn]; exact run_pos s p 97 122 hlt hL
   have hrl := run_le 97 122 (s.data.toList.drop p)
   rw [List.length_drop, size_list, ← hn] at hrl
   have hrw := fun w => readWord_any s p n w hs hn (by omega)
   rw [← tn_word s p n hlt hn h0] at hrw
   rw [hL] at hle
   generalize tnOf (tkAt s p) = T at hrw
   unfold tnVal at hrw
   clear e40 e41 e35 hL hn h0 hrl
   go_enter Tryd.func91, Tryd.ntmps91
   go_wp2_with (first
    | (go_at_call 104; refine (hskp _).mono ?_; rintro e w' ⟨rfl, rfl⟩)
    | (go_at_call 105; refine (hby _).mono ?_; rintro e w' ⟨rfl, rfl⟩)
    | (go_at_call 106; refine (hle _).mono ?_; rintro e w' ⟨rfl, rfl⟩)
    | (go_at_call 108; refine (hdi _).mono ?_; rintro e w' ⟨rfl, rfl⟩))
   refine (hrw _).mono ?_
   rintro e w1 ⟨rfl, hb1⟩
   have hgb : w1.heap[w.heap.size]? = some (.cells #[.int .i64 0, .int .i64 0, .int .i64 0, .string ⟨#[]⟩, .int .i64 0] 112 (0, 0)) := by
    rw [hb1.block w.heap.size (by simp)]; exact blk_new _ _
   go_wp2_with (refine st_row rfl 112 (.tmp 4) (.tmp 41) rfl w.heap.size #[.int .i64 T.kind, .int .i64 T.at_, .int .i64 T.beh, .string (bs T.word), .int .i64 T.num] rfl rfl 112 _ hgb Tryd.infoTN rfl (tn_one T) ?_; intro W hW hWs hWo hW1 hW2 hW3)
   have c0 : W.cell? ⟨w.heap.size, 0, none⟩ = some (.int .i64 T.kind) := by rw [blk_cell hW]; rfl
   have c1 : W.cell? ⟨w.heap.size, 1, none⟩ = some (.int .i64 T.at_) := by rw [blk_cell hW]; rfl
   have c2 : W.cell? ⟨w.heap.size, 2, none⟩ = some (.int .i64 T.beh) := by rw [blk_cell hW]; rfl
   have c3 : W.cell? ⟨w.heap.size, 3, none⟩ = some (.string (bs T.word)) := by rw [blk_cell hW]; rfl
   have c4 : W.cell? ⟨w.heap.size, 4, none⟩ = some (.int .i64 T.num) := by rw [blk_cell hW]; rfl
   have hBW : Below w.heap.size w W := below_new (((Below.refl _ w).alloc (Nat.le_refl _) _).trans (hb1.mono (by simp))) (Nat.le_refl _) hWs hWo hW1 hW2 hW3
   have HBW : Hid _ := hBW
   clear hW hWs hWo hW1 hW2 hW3 hb1 hBW
   refine bodyPost_ret (v := .agg #[.int .i64 T.kind, .int .i64 T.at_, .int .i64 T.beh, .string (bs T.word), .int .i64 T.num]) (by simp [results, Tryd.results91, go_sem, c0, c1, c2, c3, c4]) rfl ⟨rfl, HBW.out⟩
  | false =>
   rw [hL] at hle
   cases hD : inB 48 57 s[p] with
   | true =>
    have d40 : ((s[p].toNat : Int) == 40) = false := by
     rw [beq_eq_false_iff_ne]; unfold inB at hD; simp only [Bool.and_eq_true, decide_eq_true_eq] at hD; omega
    have d41 : ((s[p].toNat : Int) == 41) = false := by
     rw [beq_eq_false_iff_ne]; unfold inB at hD; simp only [Bool.and_eq_true, decide_eq_true_eq] at hD; omega
    obtain ⟨n, hn⟩ : ∃ n, n = run 48 57 (s.data.toList.drop p) := ⟨_, rfl⟩
    have h0 : 0 < n := by rw [hn]; exact run_pos s p 48 57 hlt hD
    have hrl := run_le 48 57 (s.data.toList.drop p)
    rw [List.length_drop, size_list, ← hn] at hrl
    have hrn := fun w => readNumber_any s p p n 4 5 w hs hn (by omega) (by omega)
    rw [← tn_num s p n hlt hL hn h0] at hrn
    rw [hD] at hdi
    generalize tnOf (tkAt s p) = T at hrn
    unfold tnVal at hrn
    clear e40 e41 e35 hL hD hn h0 hrl
    go_enter Tryd.func91, Tryd.ntmps91
    go_wp2_with (first
     | (go_at_call 104; refine (hskp _).mono ?_; rintro e w' ⟨rfl, rfl⟩)
     | (go_at_call 105; refine (hby _).mono ?_; rintro e w' ⟨rfl, rfl⟩)
     | (go_at_call 106; refine (hle _).mono ?_; rintro e w' ⟨rfl, rfl⟩)
     | (go_at_call 108; refine (hdi _).mono ?_; rintro e w' ⟨rfl, rfl⟩))
    refine (hrn _).mono ?_
    rintro e w1 ⟨rfl, hb1⟩
    have hgb : w1.heap[w.heap.size]? = some (.cells #[.int .i64 0, .int .i64 0, .int .i64 0, .string ⟨#[]⟩, .int .i64 0] 112 (0, 0)) := by
     rw [hb1.block w.heap.size (by simp)]; exact blk_new _ _
    go_wp2_with (refine st_row rfl 112 (.tmp 4) (.tmp 48) rfl w.heap.size #[.int .i64 T.kind, .int .i64 T.at_, .int .i64 T.beh, .string (bs T.word), .int .i64 T.num] rfl rfl 112 _ hgb Tryd.infoTN rfl (tn_one T) ?_; intro W hW hWs hWo hW1 hW2 hW3)
    have c0 : W.cell? ⟨w.heap.size, 0, none⟩ = some (.int .i64 T.kind) := by rw [blk_cell hW]; rfl
    have c1 : W.cell? ⟨w.heap.size, 1, none⟩ = some (.int .i64 T.at_) := by rw [blk_cell hW]; rfl
    have c2 : W.cell? ⟨w.heap.size, 2, none⟩ = some (.int .i64 T.beh) := by rw [blk_cell hW]; rfl
    have c3 : W.cell? ⟨w.heap.size, 3, none⟩ = some (.string (bs T.word)) := by rw [blk_cell hW]; rfl
    have c4 : W.cell? ⟨w.heap.size, 4, none⟩ = some (.int .i64 T.num) := by rw [blk_cell hW]; rfl
    have hBW : Below w.heap.size w W := below_new (((Below.refl _ w).alloc (Nat.le_refl _) _).trans (hb1.mono (by simp))) (Nat.le_refl _) hWs hWo hW1 hW2 hW3
    have HBW : Hid _ := hBW
    clear hW hWs hWo hW1 hW2 hW3 hb1 hBW
    refine bodyPost_ret (v := .agg #[.int .i64 T.kind, .int .i64 T.at_, .int .i64 T.beh, .string (bs T.word), .int .i64 T.num]) (by simp [results, Tryd.results91, go_sem, c0, c1, c2, c3, c4]) rfl ⟨rfl, HBW.out⟩
   | false =>
    rw [hD] at hdi
    by_cases h35 : s[p] = 35
    ·have d35 : ((s[p].toNat : Int) == 35) = true := by rw [e35]; simpa using h35
     have d40 : ((s[p].toNat : Int) == 40) = false := by rw [e40, h35]; rfl
     have d41 : ((s[p].toNat : Int) == 41) = false := by rw [e41, h35]; rfl
     obtain ⟨n, hn⟩ : ∃ n, n = run 48 57 (s.data.toList.drop (p + 1)) := ⟨_, rfl⟩
     have hrl := run_le 48 57 (s.data.toList.drop (p + 1))
     rw [List.length_drop, size_list, ← hn] at hrl
     have hrn := fun w => readNumber_any s p (p + 1) n 3 6 w hs hn (by omega) (by omega)
     rw [← tn_reg s p n hlt h35 hn] at hrn
     generalize tnOf (tkAt s p) = T at hrn
     unfold tnVal at hrn
     rw [Int.natCast_add] at hrn
     clear e40 e41 e35 hL hD hn hrl h35
     go_enter Tryd.func91, Tryd.ntmps91
     go_wp2_with (first
      | (go_at_call 104; refine (hskp _).mono ?_; rintro e w' ⟨rfl, rfl⟩)
      | (go_at_call 105; refine (hby _).mono ?_; rintro e w' ⟨rfl, rfl⟩)
      | (go_at_call 106; refine (hle _).mono ?_; rintro e w' ⟨rfl, rfl⟩)
      | (go_at_call 108; refine (hdi _).mono ?_; rintro e w' ⟨rfl, rfl⟩))
     refine (hrn _).mono ?_
     rintro e w1 ⟨rfl, hb1⟩
     have hgb : w1.heap[w.heap.size]? = some (.cells #[.int .i64 0, .int .i64 0, .int .i64 0, .string ⟨#[]⟩, .int .i64 0] 112 (0, 0)) := by
      rw [hb1.block w.heap.size (by simp)]; exact blk_new _ _
     go_wp2_with (refine st_row rfl 112 (.tmp 4) (.tmp 56) rfl w.heap.size #[.int .i64 T.kind, .int .i64 T.at_, .int .i64 T.beh, .string (bs T.word), .int .i64 T.num] rfl rfl 112 _ hgb Tryd.infoTN rfl (tn_one T) ?_; intro W hW hWs hWo hW1 hW2 hW3)
     have c0 : W.cell? ⟨w.heap.size, 0, none⟩ = some (.int .i64 T.kind) := by rw [blk_cell hW]; rfl
     have c1 : W.cell? ⟨w.heap.size, 1, none⟩ = some (.int .i64 T.at_) := by rw [blk_cell hW]; rfl
     have c2 : W.cell? ⟨w.heap.size, 2, none⟩ = some (.int .i64 T.beh) := by rw [blk_cell hW]; rfl
     have c3 : W.cell? ⟨w.heap.size, 3, none⟩ = some (.string (bs T.word)) := by rw [blk_cell hW]; rfl
     have c4 : W.cell? ⟨w.heap.size, 4, none⟩ = some (.int .i64 T.num) := by rw [blk_cell hW]; rfl
     have hBW : Below w.heap.size w W := below_new (((Below.refl _ w).alloc (Nat.le_refl _) _).trans (hb1.mono (by simp))) (Nat.le_refl _) hWs hWo hW1 hW2 hW3
     have HBW : Hid _ := hBW
     clear hW hWs hWo hW1 hW2 hW3 hb1 hBW
     refine bodyPost_ret (v := .agg #[.int .i64 T.kind, .int .i64 T.at_, .int .i64 T.beh, .string (bs T.word), .int .i64 T.num]) (by simp [results, Tryd.results91, go_sem, c0, c1, c2, c3, c4]) rfl ⟨rfl, HBW.out⟩
    ·have d35 : ((s[p].toNat : Int) == 35) = false := by rw [e35]; simpa using h35
     have htn := tn_other s p hlt hL hD h35
     rw [htn]
     clear htn e35 hL hD h35
     by_cases h40 : s[p] = 40
     ·have d40 : ((s[p].toNat : Int) == 40) = true := by rw [e40]; simpa using h40
      have H40 : Hid _ := h40
      clear h40 e40 e41
      go_enter Tryd.func91, Tryd.ntmps91
      go_wp2_with (first
       | (go_at_call 104; refine (hskp _).mono ?_; rintro e w' ⟨rfl, rfl⟩)
       | (go_at_call 105; refine (hby _).mono ?_; rintro e w' ⟨rfl, rfl⟩))
      refine bodyPost_ret (v := .agg #[.int .i64 2, .int .i64 p, .int .i64 ((p : Int) + 1), .string ⟨#[]⟩, .int .i64 0]) (by simp [results, Tryd.results91, go_sem]) rfl ⟨?_, (Below.refl _ _).alloc (Nat.le_refl _) _⟩
      first | rfl | (simp only [if_pos H40.out]; rfl) | (unfold tnVal; simp only [if_pos H40.out]; rfl)
     ·have d40 : ((s[p].toNat : Int) == 40) = false := by rw [e40]; simpa using h40
      have H40 : Hid _ := h40
      clear h40 e40
      by_cases h41 : s[p] = 41
      ·have d41 : ((s[p].toNat : Int) == 41) = true := by rw [e41]; simpa using h41
       have H41 : Hid _ := h41
       clear h41 e41
       go_enter Tryd.func91, Tryd.ntmps91
       go_wp2_with (first
        | (go_at_call 104; refine (hskp _).mono ?_; rintro e w' ⟨rfl, rfl⟩)
        | (go_at_call 105; refine (hby _).mono ?_; rintro e w' ⟨rfl, rfl⟩))
       refine bodyPost_ret (v := .agg #[.int .i64 3, .int .i64 p, .int .i64 ((p : Int) + 1), .string ⟨#[]⟩, .int .i64 0]) (by simp [results, Tryd.results91, go_sem]) rfl ⟨?_, (Below.refl _ _).alloc (Nat.le_refl _) _⟩
       first | rfl | (simp only [if_neg H40.out, if_pos H41.out]; rfl) | (unfold tnVal; simp only [if_neg H40.out, if_pos H41.out]; rfl)
      ·have d41 : ((s[p].toNat : Int) == 41) = false := by rw [e41]; simpa using h41
       have H41 : Hid _ := h41
       clear h41 e41
       go_enter Tryd.func91, Tryd.ntmps91
       go_wp2_with (first
        | (go_at_call 104; refine (hskp _).mono ?_; rintro e w' ⟨rfl, rfl⟩)
        | (go_at_call 105; refine (hby _).mono ?_; rintro e w' ⟨rfl, rfl⟩)
        | (go_at_call 106; refine (hle _).mono ?_; rintro e w' ⟨rfl, rfl⟩)
        | (go_at_call 108; refine (hdi _).mono ?_; rintro e w' ⟨rfl, rfl⟩))
       refine bodyPost_ret (v := .agg #[.int .i64 1, .int .i64 p, .int .i64 ((p : Int) + 1), .string ⟨#[]⟩, .int .i64 0]) (by simp [results, Tryd.results91, go_sem]) rfl ⟨?_, (Below.refl _ _).alloc (Nat.le_refl _) _⟩
       first | rfl | (simp only [if_neg H40.out, if_neg H41.out]; rfl) | (unfold tnVal; simp only [if_neg H40.out, if_neg H41.out]; rfl)
 ·have htk : tksAt s.data.toList p = [] := tks_end s p (by omega)
  rw [htk]
  clear htk hsk3
  go_enter Tryd.func91, Tryd.ntmps91
  go_wp2_with (go_at_call 104; refine (hskp _).mono ?_; rintro e w' ⟨rfl, rfl⟩)
  refine bodyPost_ret (v := .agg #[.int .i64 0, .int .i64 s.size, .int .i64 s.size, .string ⟨#[]⟩, .int .i64 0]) (by simp [results, Tryd.results91, go_sem]) rfl ⟨rfl, (Below.refl _ _).alloc (Nat.le_refl _) _⟩
end Go.Proofs.YtpicaknklgccoaaDoor
namespace Go.Proofs.YtpicaknklgccoaaDoor
structure Gr (pE : PS → Int × PS) (st : PS) : Prop where
 sc : (pE st).2.scope = st.scope
 l : (pE st).2.l.length ≤ st.l.length
 nd : (pE st).2.nodes.length + (pE st).2.l.length ≤ st.nodes.length + st.l.length
 op : (pE st).2.opened.length + 4 * (pE st).2.l.length ≤ st.opened.length + 4 * st.l.length + 1
 up : st.opened.length ≤ (pE st).2.opened.length
def GrAll (pE : PS → Int × PS) (m : Nat) : Prop := ∀ st : PS, st.l.length ≤ m → Gr pE st
structure Gs (a b : PS) (j n : Nat) : Prop where
 sc : b.scope = a.scope
 l : b.l.length ≤ a.l.length
 nd : b.nodes.length + b.l.length ≤ a.nodes.length + a.l.length + n
 op : b.opened.length + 4 * b.l.length ≤ a.opened.length + 4 * a.l.length + j
 up : a.opened.length ≤ b.opened.length
theorem Gs.refl (a : PS) : Gs a a 0 0 := ⟨rfl, Nat.le_refl _, Nat.le_refl _, Nat.le_refl _, Nat.le_refl _⟩
theorem Gs.trans {a b c : PS} {i j n m : Nat} (h : Gs a b i n) (h' : Gs b c j m) : Gs a c (i + j) (n + m) :=
 ⟨h'.sc.trans h.sc, by have := h.l; have := h'.l; omega, by have := h.nd; have := h'.nd; omega, by have := h.op; have := h'.op; omega, by have := h.up; have := h'.up; omega⟩
theorem gs_tail (st : PS) : Gs st st.tail 0 0 := by
 refine ⟨rfl, tail_len st, ?_, ?_, Nat.le_refl _⟩
 ·have := tail_len st; simp only [PS.tail] at this ⊢; omega
 ·have := tail_len st; simp only [PS.tail] at this ⊢; omega
theorem gs_fail (a : Nat) (st : PS) : Gs st (st.fail a) 0 0 := by
 unfold PS.fail
 split
 ·exact Gs.refl _
 ·exact ⟨rfl, by simp, by simp, by simp, Nat.le_refl _⟩
theorem gs_expect (len k : Nat) (st : PS) : Gs st (st.expect len k) 0 0 := by
 unfold PS.expect
 split
 ·exact (gs_tail st).trans (gs_fail _ _)
 ·exact gs_tail st
theorem gs_pE {pE : PS → Int × PS} {m : Nat} (h : GrAll pE m) (st : PS) (hl : st.l.length ≤ m) : Gs st (pE st).2 1 0 :=
 have g := h st hl
 ⟨g.sc, g.l, g.nd, g.op, g.up⟩
theorem gs_body {pE : PS → Int × PS} {m : Nat} (h : GrAll pE m) (w : List UInt8) (src : Int) (st : PS) (hl : st.l.length ≤ m) : Gs st (pBody pE w src st).2 1 0 := by
 have g := h { st with scope := st.scope ++ [(w, src)] } hl
 refine ⟨?_, g.l, g.nd, g.op, g.up⟩
 unfold pBody
 simp only [g.sc, List.dropLast_concat]
theorem gs_row1 {pE : PS → Int × PS} {m : Nat} (h : GrAll pE m) (n : NR) (st : PS) (hl : st.l.length ≤ m) : Gs st (pRow1 pE n st).2 1 0 := gs_pE h st hl
theorem gs_row2 {pE : PS → Int × PS} {m : Nat} (h : GrAll pE m) (n : NR) (st : PS) (hl : st.l.length ≤ m) : Gs st (pRow2 pE n st).2 2 0 :=
 have g := gs_row1 h n st hl
 g.trans (gs_pE h _ (Nat.le_trans g.l hl))
theorem gs_row3 {pE : PS → Int × PS} {m : Nat} (h : GrAll pE m) (n : NR) (st : PS) (hl : st.l.length ≤ m) : Gs st (pRow3 pE n st).2 3 0 :=
 have g := gs_row2 h n st hl
 g.trans (gs_pE h _ (Nat.le_trans g.l hl))
theorem gs_let {pE : PS → Int × PS} {m : Nat} (h : GrAll pE m) (len : Nat) (n : NR) (st : PS) (hl : st.l.length ≤ m) : Gs st (pLet len pE n st).2 2 0 := by
 have g1 := gs_expect len 4 st
 have g2 := gs_pE h (st.expect len 4) (Nat.le_trans g1.l hl)
 have g3 := gs_body h (tk1 len st.l).word (pE (st.expect len 4)).1 (pE (st.expect len 4)).2 (by have := g1.l; have := g2.l; omega)
 exact (g1.trans g2).trans g3
theorem gs_loop {pE : PS → Int × PS} {m : Nat} (h : GrAll pE m) (len : Nat) (n : NR) (st : PS) (hl : st.l.length ≤ m) : Gs st (pLoop len pE n st).2 3 0 := by
 have g0 := gs_pE h st hl
 have g1 := gs_expect len 4 (pE st).2
 have g2 := gs_pE h ((pE st).2.expect len 4) (by have := g0.l; have := g1.l; omega)
 have g3 := gs_body h (tk1 len (pE st).2.l).word (pE ((pE st).2.expect len 4)).1 (pE ((pE st).2.expect len 4)).2 (by have := g0.l; have := g1.l; have := g2.l; omega)
 exact ((g0.trans g1).trans g2).trans g3
theorem Gs.le {a b : PS} {j j' n n' : Nat} (h : Gs a b j n) (hj : j ≤ j') (hn : n ≤ n') : Gs a b j' n' := ⟨h.sc, h.l, by have := h.nd; omega, by have := h.op; omega, h.up⟩
theorem gs_fill {pE : PS → Int × PS} {m : Nat} (h : GrAll pE m) (placed : Bool) (len : Nat) (n : NR) (st : PS) (hl : st.l.length ≤ m) : Gs st (pFill placed len pE n st).2 3 0 := by
 have hr : Gs st (pRegion len n st).2 0 0 := gs_expect len 6 st
 have hrl := hr.l
 unfold pFill
 split
 ·exact (gs_let h len n st hl).le (by omega) (by omega)
 split
 ·exact gs_loop h len n st hl
 split
 ·split
  ·exact (hr.trans (gs_row2 h _ _ (by omega))).le (by omega) (by omega)
  ·exact (gs_row2 h n st hl).le (by omega) (by omega)
 split
 ·exact (hr.trans (gs_row1 h _ _ (by omega))).le (by omega) (by omega)
 split
 ·exact (gs_row1 h n st hl).le (by omega) (by omega)
 split
 ·exact gs_row3 h n st hl
 ·exact (gs_row2 h n st hl).le (by omega) (by omega)
theorem gs_add (n : NR) (st : PS) : Gs st (st.add n) 0 1 := ⟨rfl, Nat.le_refl _, by simp [PS.add]; omega, Nat.le_refl _, Nat.le_refl _⟩
theorem gs_bracket {pE : PS → Int × PS} {m : Nat} (h : GrAll pE m) (placed : Bool) (len : Nat) (n : NR) (st : PS) (hl : st.l.length ≤ m) : Gs st (pBracket placed len pE n st).2 3 1 := by
 have ht := gs_tail st
 have htl := ht.l
 unfold pBracket
 simp only
 split
 ·exact (ht.trans (gs_fail _ _)).le (by omega) (by omega)
 ·have h1 := gs_fill h placed len { n with form := formN (tk1 len st.l).kind } st.tail (by omega)
  exact ((ht.trans h1).trans (gs_expect len 3 _)).trans (gs_add _ _)
theorem gr_any {pB : NR → PS → Int × PS} (len : Nat) (st : PS) (h : ∀ n, st.l ≠ [] → Gs st.tail (pB n st.tail).2 3 1) :
  (pAny len pB st).2.scope = st.scope ∧ (pAny len pB st).2.l.length ≤ st.l.length ∧ (pAny len pB st).2.nodes.length + (pAny len pB st).2.l.length ≤ st.nodes.length + st.l.length ∧
   (pAny len pB st).2.opened.length + 4 * (pAny len pB st).2.l.length ≤ st.opened.length + 4 * st.l.length ∧ st.opened.length ≤ (pAny len pB st).2.opened.length := by
 cases hl : st.l with
 | nil =>
  have e : pAny len pB st = (-1, st.tail.fail len) := by simp [pAny, hl, tk1]
  rw [e]
  have g := (gs_tail st).trans (gs_fail len st.tail)
  have g1 := g.sc; have g2 := g.l; have g3 := g.nd; have g4 := g.op; have g5 := g.up
  rw [hl] at g2 g3 g4
  exact ⟨g1, g2, by omega, by omega, g5⟩
 | cons t r =>
  have ht : st.tail.l = r := by simp [PS.tail, hl]
  unfold pAny
  rw [hl]
  simp only [List.length_cons]
  split
  ·refine ⟨rfl, ?_, ?_, ?_, Nat.le_refl _⟩ <;> simp only [PS.add, PS.tail, hl, List.tail_cons, List.length_append, List.length_cons, List.length_nil] <;> omega
  split
  ·refine ⟨rfl, ?_, ?_, ?_, Nat.le_refl _⟩ <;> simp only [PS.add, PS.tail, hl, List.tail_cons, List.length_append, List.length_cons, List.length_nil] <;> omega
  split
  ·have g := h (nodeT (tk1 len (t :: r))) (by rw [hl]; simp)
   have g1 := g.sc; have g2 := g.l; have g3 := g.nd; have g4 := g.op; have g5 := g.up
   rw [ht] at g2 g3 g4
   have e1 : st.tail.nodes = st.nodes := rfl
   have e2 : st.tail.opened = st.opened := rfl
   rw [e1] at g3
   rw [e2] at g4 g5
   refine ⟨g1, ?_, ?_, ?_, g5⟩ <;> omega
  ·have g := (gs_tail st).trans (gs_fail (tk1 len (t :: r)).at_ st.tail)
   have g1 := g.sc; have g2 := g.l; have g3 := g.nd; have g4 := g.op; have g5 := g.up
   rw [hl] at g2 g3 g4
   simp only [List.length_cons] at g2 g3 g4
   exact ⟨g1, by omega, by omega, by omega, g5⟩
theorem gr_seat {f : PS → Int × PS} (st : PS) (h : let a := { st with opened := st.opened ++ [-1] }; (f a).2.scope = a.scope ∧ (f a).2.l.length ≤ a.l.length ∧ (f a).2.nodes.length + (f a).2.l.length ≤ a.nodes.length + a.l.length ∧
   (f a).2.opened.length + 4 * (f a).2.l.length ≤ a.opened.length + 4 * a.l.length ∧ a.opened.length ≤ (f a).2.opened.length) : Gr (pSeat f) st := by
 simp only at h
 obtain ⟨h1, h2, h3, h4, h5⟩ := h
 refine ⟨h1, h2, h3, ?_, ?_⟩
 ·unfold pSeat; simp only [List.length_set]
  simp only [List.length_append, List.length_cons, List.length_nil] at h4; omega
 ·unfold pSeat; simp only [List.length_set]
  simp only [List.length_append, List.length_cons, List.length_nil] at h5; omega
theorem gr_expr (placed : Bool) (len : Nat) : ∀ n : Nat, GrAll (pExpr placed len n) n := by
 intro n
 induction n with
 | zero =>
  intro st hl
  unfold pExpr
  refine gr_seat st (gr_any len _ (fun n hn => absurd (List.length_eq_zero_iff.1 (by simpa using hl)) hn))
 | succ m ih =>
  intro st hl
  unfold pExpr
  refine gr_seat st (gr_any len _ (fun n hn => gs_bracket ih placed len n _ ?_))
  simp [PS.tail]; omega
end Go.Proofs.YtpicaknklgccoaaDoor
