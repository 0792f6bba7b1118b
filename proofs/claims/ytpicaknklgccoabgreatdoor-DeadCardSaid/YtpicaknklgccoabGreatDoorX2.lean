import Derived.Test.YtpicaknklgccoabGreatDoorX1
import Derived.Laws.Tables
namespace Go.Proofs.YtpicaknklgccoabGreatDoor
structure TN where
 kind : Nat
 at_ : Nat
 beh : Nat
 word : List UInt8
 num : Int
def kindN : Cl → Nat
 | .bad => 1
 | .opn => 2
 | .cls => 3
 | .nam => 4
 | .num => 5
 | .reg => 6
 | .kw .let_ => 7
 | .kw .pair => 8
 | .kw .fst => 9
 | .kw .snd => 10
 | .kw .if_ => 11
 | .kw .add => 12
 | .kw .sub => 13
 | .kw .less => 14
 | .kw .loop => 15
 | .kw .new => 16
def wordN (t : Tk) : List UInt8 := match t.c with
 | .nam => t.s
 | .kw _ => t.s
 | _ => []
def numN (t : Tk) : Int := match t.c with
 | .num => valueL t.s
 | .reg => valueL t.s
 | _ => 0
def tnOf (t : Tk) : TN := ⟨kindN t.c, t.at_, t.at_ + t.s.length, wordN t, numN t⟩
def tksAt (s : List UInt8) (p : Nat) : List Tk := toks (s.length - p) p (s.drop p)
def tk1 (len : Nat) (l : List Tk) : TN := match l with
 | [] => ⟨0, len, len, [], 0⟩
 | t :: _ => tnOf t
structure NR where
 form : Nat
 at_ : Nat
 beh : Nat
 num : Int
 word : List UInt8
 region : Int
 source : Int
 p0 : Int
 p1 : Int
 p2 : Int
structure PS where
 l : List Tk
 fl : Option Nat
 scope : List (List UInt8 × Int)
 nodes : List NR
 opened : List Int
def PS.fail (at_ : Nat) (st : PS) : PS := match st.fl with
 | some _ => st
 | none => { st with fl := some at_, l := [] }
def PS.tail (st : PS) : PS := { st with l := st.l.tail }
def PS.expect (len kind : Nat) (st : PS) : PS := if (tk1 len st.l).kind ≠ kind then st.tail.fail (tk1 len st.l).at_ else st.tail
def PS.add (n : NR) (st : PS) : PS := { st with nodes := st.nodes ++ [n] }
def findS (scope : List (List UInt8 × Int)) (w : List UInt8) : Int := match scope.reverse.find? (fun x => x.1 == w) with
 | some x => x.2
 | none => -1
def formN : Nat → Nat
 | 7 => 3
 | 8 => 4
 | 9 => 5
 | 10 => 6
 | 11 => 7
 | 12 => 8
 | 13 => 9
 | 14 => 10
 | 15 => 11
 | 16 => 12
 | _ => 0
def pBody (pE : PS → Int × PS) (word : List UInt8) (src : Int) (st : PS) : Int × PS :=
 let x := pE { st with scope := st.scope ++ [(word, src)] }
 (x.1, { x.2 with scope := x.2.scope.dropLast })
def pLet (len : Nat) (pE : PS → Int × PS) (n : NR) (st : PS) : NR × PS :=
 let nm := tk1 len st.l
 let x := pE (st.expect len 4)
 let y := pBody pE nm.word x.1 x.2
 ({ n with word := nm.word, p0 := x.1, p1 := y.1, p2 := -1 }, y.2)
def pLoop (len : Nat) (pE : PS → Int × PS) (n : NR) (st : PS) : NR × PS :=
 let t := pE st
 let nm := tk1 len t.2.l
 let x := pE (t.2.expect len 4)
 let y := pBody pE nm.word x.1 x.2
 ({ n with word := nm.word, p0 := t.1, p1 := x.1, p2 := y.1 }, y.2)
def pRegion (len : Nat) (n : NR) (st : PS) : NR × PS := ({ n with region := (tk1 len st.l).num }, st.expect len 6)
def pRow1 (pE : PS → Int × PS) (n : NR) (st : PS) : NR × PS :=
 let x := pE st
 ({ n with p0 := x.1 }, x.2)
def pRow2 (pE : PS → Int × PS) (n : NR) (st : PS) : NR × PS :=
 let x := pRow1 pE n st
 let y := pE x.2
 ({ x.1 with p1 := y.1 }, y.2)
def pRow3 (pE : PS → Int × PS) (n : NR) (st : PS) : NR × PS :=
 let x := pRow2 pE n st
 let y := pE x.2
 ({ x.1 with p2 := y.1 }, y.2)
def pFill (placed : Bool) (len : Nat) (pE : PS → Int × PS) (n : NR) (st : PS) : NR × PS :=
 if n.form = 3 then pLet len pE n st
 else if n.form = 11 then pLoop len pE n st
 else if n.form = 4 then (if placed then pRow2 pE (pRegion len n st).1 (pRegion len n st).2 else pRow2 pE n st)
 else if n.form = 12 then pRow1 pE (pRegion len n st).1 (pRegion len n st).2
 else if n.form = 5 ∨ n.form = 6 then pRow1 pE n st
 else if n.form = 7 then pRow3 pE n st
 else pRow2 pE n st
def pBracket (placed : Bool) (len : Nat) (pE : PS → Int × PS) (n : NR) (st : PS) : Int × PS :=
 let w := tk1 len st.l
 let f := formN w.kind
 if f = 0 ∨ (f = 12 ∧ placed = false) then (-1, st.tail.fail w.at_)
 else
  let x := pFill placed len pE { n with form := f } st.tail
  let e := tk1 len x.2.l
  (((x.2.expect len 3).nodes.length : Int), (x.2.expect len 3).add { x.1 with beh := e.beh })
def nodeT (t : TN) : NR := ⟨0, t.at_, t.beh, 0, [], 0, -1, -1, -1, -1⟩
def pAny (len : Nat) (pB : NR → PS → Int × PS) (st : PS) : Int × PS :=
 let t := tk1 len st.l
 if t.kind = 5 then ((st.nodes.length : Int), st.tail.add { nodeT t with form := 1, num := t.num })
 else if t.kind = 4 then ((st.nodes.length : Int), st.tail.add { nodeT t with form := 2, word := t.word, source := findS st.scope t.word })
 else if t.kind = 2 then pB (nodeT t) st.tail
 else (-1, st.tail.fail t.at_)
def pSeat (f : PS → Int × PS) (st : PS) : Int × PS :=
 let x := f { st with opened := st.opened ++ [-1] }
 (x.1, { x.2 with opened := x.2.opened.set st.opened.length x.1 })
def pExpr (placed : Bool) (len : Nat) : Nat → PS → Int × PS
 | 0 => pSeat (pAny len fun _ st => (-1, st))
 | m + 1 => pSeat (pAny len (pBracket placed len (pExpr placed len m)))
theorem kindN_num (c : Cl) : kindN c = 5 ↔ c = .num := by
 cases c with
 | kw k => cases k <;> decide
 | _ => decide
theorem kindN_nam (c : Cl) : kindN c = 4 ↔ c = .nam := by
 cases c with
 | kw k => cases k <;> decide
 | _ => decide
theorem kindN_opn (c : Cl) : kindN c = 2 ↔ c = .opn := by
 cases c with
 | kw k => cases k <;> decide
 | _ => decide
theorem kindN_cls (c : Cl) : kindN c = 3 ↔ c = .cls := by
 cases c with
 | kw k => cases k <;> decide
 | _ => decide
theorem kindN_reg (c : Cl) : kindN c = 6 ↔ c = .reg := by
 cases c with
 | kw k => cases k <;> decide
 | _ => decide
def PS.stuck (q : Nat) (st : PS) : Prop := st.fl = some q ∧ st.l = []
theorem stuck_fail {q a : Nat} {st : PS} (h : st.stuck q) : (st.fail a).stuck q := by
 obtain ⟨h1, h2⟩ := h
 unfold PS.fail; rw [h1]; exact ⟨h1, h2⟩
theorem stuck_tail {q : Nat} {st : PS} (h : st.stuck q) : st.tail.stuck q := ⟨h.1, by simp [PS.tail, h.2]⟩
theorem stuck_expect {q len k : Nat} {st : PS} (h : st.stuck q) : (st.expect len k).stuck q := by
 unfold PS.expect; split
 ·exact stuck_fail (stuck_tail h)
 ·exact stuck_tail h
theorem fail_stuck {a : Nat} {st : PS} (h : st.fl = none) : (st.fail a).stuck a := by
 unfold PS.fail; rw [h]; exact ⟨rfl, rfl⟩
def Keeps (pE : PS → Int × PS) : Prop := ∀ (q : Nat) (st : PS), st.stuck q → (pE st).2.stuck q
theorem keeps_any (len : Nat) (pB : NR → PS → Int × PS) : Keeps (pAny len pB) := by
 intro q st h
 unfold pAny
 simp only [h.2, tk1]
 exact stuck_fail (stuck_tail h)
theorem keeps_seat {f : PS → Int × PS} (hf : Keeps f) : Keeps (pSeat f) := by
 intro q st h
 exact hf q { st with opened := st.opened ++ [-1] } h
theorem keeps_expr (placed : Bool) (len n : Nat) : Keeps (pExpr placed len n) := by
 cases n with
 | zero => exact keeps_seat (keeps_any _ _)
 | succ m => exact keeps_seat (keeps_any _ _)
theorem keeps_body {pE : PS → Int × PS} (h : Keeps pE) (w : List UInt8) (src : Int) {q : Nat} {st : PS} (hs : st.stuck q) : (pBody pE w src st).2.stuck q := h q { st with scope := st.scope ++ [(w, src)] } hs
theorem tail_len (st : PS) : st.tail.l.length ≤ st.l.length := by simp [PS.tail]
end Go.Proofs.YtpicaknklgccoabGreatDoor
namespace Go.Proofs.YtpicaknklgccoabGreatDoor
open Go.RowKit
def bA (s : ByteArray) (a : Nat) : UInt8 := if h : a < s.size then s[a] else 0
theorem bA_in (s : ByteArray) (a : Nat) (h : a < s.size) : bA s a = s[a] := by unfold bA; rw [dif_pos h]
theorem bA_out (s : ByteArray) (a : Nat) (h : s.size ≤ a) : bA s a = 0 := by unfold bA; rw [dif_neg (by omega)]
set_option maxHeartbeats 400000 in
theorem byteAt_any (s : ByteArray) (a : Nat) (w : World) (ha : a ≤ 10000) :
  Calls Tryz.prog 136 #[.string s, .int .i64 a] w fun e w' => e = .returned (.int .u8 ((bA s a).toNat : Int)) ∧ w' = w := by
 by_cases h : a < s.size
 ·rw [bA_in s a h]
  go_enter Tryz.func136, Tryz.ntmps136
  go_wp2
  go_ret
  exact ⟨rfl, rfl⟩
 ·rw [bA_out s a (by omega)]
  go_enter Tryz.func136, Tryz.ntmps136
  go_wp2
  go_ret
  exact ⟨rfl, rfl⟩
set_option maxHeartbeats 400000 in
theorem isLetter_any (c : UInt8) (w : World) :
  Calls Tryz.prog 137 #[.int .u8 (c.toNat : Int)] w fun e w' => e = .returned (.bool (inB 97 122 c)) ∧ w' = w := by
 have hc : c.toNat < 256 := c.toNat_lt
 unfold inB
 go_enter Tryz.func137, Tryz.ntmps137
 go_wp2
 all_goals go_ret
 ·refine ⟨ret_bool ?_, rfl⟩
  have h1 : (97 : Int) ≤ (c.toNat : Int) := by assumption
  simp [h1]
 ·refine ⟨ret_bool ?_, rfl⟩
  have h1 : ¬ (97 : Int) ≤ (c.toNat : Int) := by omega
  simp [h1]
set_option maxHeartbeats 400000 in
theorem isDigit_any (c : UInt8) (w : World) :
  Calls Tryz.prog 139 #[.int .u8 (c.toNat : Int)] w fun e w' => e = .returned (.bool (inB 48 57 c)) ∧ w' = w := by
 have hc : c.toNat < 256 := c.toNat_lt
 unfold inB
 go_enter Tryz.func139, Tryz.ntmps139
 go_wp2
 all_goals go_ret
 ·refine ⟨ret_bool ?_, rfl⟩
  have h1 : (48 : Int) ≤ (c.toNat : Int) := by assumption
  simp [h1]
 ·refine ⟨ret_bool ?_, rfl⟩
  have h1 : ¬ (48 : Int) ≤ (c.toNat : Int) := by omega
  simp [h1]
set_option maxHeartbeats 400000 in
theorem isBlank_any (c : UInt8) (w : World) :
  Calls Tryz.prog 145 #[.int .u8 (c.toNat : Int)] w fun e w' => e = .returned (.bool (blankB c)) ∧ w' = w := by
 have e1 : ((c.toNat : Int) == 32) = (c == 32) := byte_eq c 32
 have e2 : ((c.toNat : Int) == 10) = (c == 10) := byte_eq c 10
 unfold blankB
 rw [← e1, ← e2]
 clear e1 e2
 go_enter Tryz.func145, Tryz.ntmps145
 go_wp2
 all_goals go_ret
 all_goals
  refine ⟨ret_bool ?_, rfl⟩
  simp_all
def nbl : List UInt8 → Nat
 | [] => 0
 | c :: r => if blankB c then nbl r + 1 else 0
theorem nbl_le (l : List UInt8) : nbl l ≤ l.length := by
 induction l with
 | nil => simp [nbl]
 | cons c r ih => simp only [nbl]; split <;> simp <;> omega
set_option maxRecDepth 100000 in
set_option maxHeartbeats 1000000 in
theorem skipBlanks_any (s : ByteArray) (a : Nat) (w : World) (hs : s.size ≤ 9000) (ha : a ≤ s.size) :
  Calls Tryz.prog 135 #[.string s, .int .i64 a] w fun e w' => e = .returned (.int .i64 ((a + nbl (s.data.toList.drop a) : Nat) : Int)) ∧ w' = w := by
 have hby := fun k (h : k ≤ 10000) w => byteAt_any s k w h
 go_enter Tryz.func135, Tryz.ntmps135
 go_wp2
 go_loop [5] (fun i => ∃ k : Nat, k ≤ s.size ∧ i = .int .i64 k ∧ a + nbl (s.data.toList.drop a) = k + nbl (s.data.toList.drop k)) (fun i => s.size - (intOf i).toNat)
 case atStart => exact ⟨a, ha, rfl, rfl⟩
 case round =>
  obtain ⟨k, hk, rfl, hr⟩ := hrel
  have HR : Hid _ := hr
  clear hr
  by_cases hlt : k < s.size
  ·by_cases hb : blankB s[k] = true
   ·have hn : nbl (s.data.toList.drop k) = nbl (s.data.toList.drop (k + 1)) + 1 := by rw [drop_cons s k hlt]; simp [nbl, hb]
    have HN : Hid _ := hn
    have hbl := fun w => isBlank_any s[k] w
    rw [hb] at hbl
    have hbk := hby k (by omega)
    rw [bA_in s k hlt] at hbk
    clear hn hb
    go_wp2_with (first
     | (go_at_call 136; refine (hbk _).mono ?_; rintro e w' ⟨rfl, rfl⟩)
     | (go_at_call 145; refine (hbl _).mono ?_; rintro e w' ⟨rfl, rfl⟩))
    go_round
    case rel => exact ⟨k + 1, by omega, by go_num, by rw [HR.out, HN.out]; omega⟩
    case measure => simp [intOf]; omega
   ·have hb0 : blankB s[k] = false := by simpa using hb
    have hn : nbl (s.data.toList.drop k) = 0 := by rw [drop_cons s k hlt]; simp [nbl, hb0]
    have HN : Hid _ := hn
    have hbl := fun w => isBlank_any s[k] w
    rw [hb0] at hbl
    have hbk := hby k (by omega)
    rw [bA_in s k hlt] at hbk
    clear hn hb hb0
    go_wp2_with (first
     | (go_at_call 136; refine (hbk _).mono ?_; rintro e w' ⟨rfl, rfl⟩)
     | (go_at_call 145; refine (hbl _).mono ?_; rintro e w' ⟨rfl, rfl⟩))
    go_ret
    exact ⟨ret_int (by have h1 := HR.out; have h2 := HN.out; omega), rfl⟩
  ·have hn : nbl (s.data.toList.drop k) = 0 := by rw [drop_end s k (by omega)]; rfl
   have HN : Hid _ := hn
   clear hn
   go_wp2
   go_ret
   exact ⟨ret_int (by have h1 := HR.out; have h2 := HN.out; omega), rfl⟩
set_option maxRecDepth 100000 in
set_option maxHeartbeats 1000000 in
theorem valueOf_any (s : ByteArray) (a n b : Nat) (w : World) (hs : s.size ≤ 9000) (hab : b = a + n) (ha : b ≤ s.size) (hn : n ≤ 5) (hd : ∀ c ∈ (s.data.toList.drop a).take n, c ≠ 35) :
  Calls Tryz.prog 148 #[.string s, .int .i64 a, .int .i64 b] w fun e w' => e = .returned (.int .i64 (valueL ((s.data.toList.drop a).take n))) ∧ w' = w := by
 have hby := fun k (h : k ≤ 10000) w => byteAt_any s k w h
 have HD : Hid _ := hd
 clear hd
 go_enter Tryz.func148, Tryz.ntmps148
 go_wp2
 go_loop [7, 8] (fun v i => ∃ k j : Nat, k ≤ n ∧ j = a + k ∧ i = .int .i64 j ∧ v = .int .i64 (valueL ((s.data.toList.drop a).take k))) (fun _ i => b - (intOf i).toNat)
 case atStart => exact ⟨0, a, by omega, rfl, rfl, rfl⟩
 case round =>
  obtain ⟨k, j, hk, hj, rfl, rfl⟩ := hrel
  have hb := valueL_bd ((s.data.toList.drop a).take k)
  have hp := pow5 ((s.data.toList.drop a).take k).length (by simp; omega)
  obtain ⟨m, hm⟩ : ∃ m, m = valueL ((s.data.toList.drop a).take k) := ⟨_, rfl⟩
  rw [← hm] at hb
  obtain ⟨hb1, hb2⟩ : -3000000 ≤ m ∧ m ≤ 3000000 := by omega
  clear hp hb
  by_cases hlt : k < n
  ·have hin : j < s.size := by omega
   have hsn : valueL ((s.data.toList.drop a).take (k + 1)) = 10 * m + (s[j].toNat : Int) - 48 := by
    have e : (s.data.toList.drop a).take (k + 1) = (s.data.toList.drop a).take k ++ [s[j]] := by
     subst hj; rw [List.take_succ_eq_append_getElem (by simp; omega), List.getElem_drop]; rfl
    have hne : s[j] ≠ 35 := by
     apply HD.out
     have : s[j] ∈ (s.data.toList.drop a).take (k + 1) := by rw [e]; simp
     rw [show (s.data.toList.drop a).take (k + 1) = ((s.data.toList.drop a).take n).take (k + 1) from by rw [List.take_take, Nat.min_eq_left (by omega)]] at this
     exact List.mem_of_mem_take this
    rw [e, valueL_snoc, if_neg hne, hm]
   have HS : Hid _ := hsn
   have hcb : s[j].toNat < 256 := s[j].toNat_lt
   have HC : Hid _ := hcb
   have hbk := hby j (by omega)
   rw [bA_in s j hin] at hbk
   clear hsn hcb
   rw [← hm]
   have HM : Hid _ := hm
   clear hm
   have HJ : Hid (j = a + k) := hj
   have hjb : j < b := by omega
   have HAB : Hid (b = a + n) := hab
   clear hj hab
   go_wp2_with fail
   refine (hbk _).mono ?_
   rintro e w' ⟨rfl, rfl⟩
   go_wp2
   go_round
   case rel =>
    have := HJ.out
    refine ⟨k + 1, j + 1, by omega, by omega, by go_num, ?_⟩
    rw [HS.out]
    have := HC.out
    rw [IntWalk.wrap64_in (s[j].toNat : Int) (by omega), IntWalk.wrap64_in (m * 10 + (s[j].toNat : Int)) (by omega), IntWalk.wrap64_in _ (by omega), Int.mul_comm m 10]
   case measure => simp [intOf]; omega
  ·have hkn : k = n := by omega
   subst hkn
   go_wp2
   go_ret
   exact ⟨rfl, rfl⟩
set_option maxHeartbeats 400000 in
theorem cut_any (s : ByteArray) (a b : Nat) (w : World) (ha : a ≤ b) (hb : b ≤ s.size) :
  Calls Tryz.prog 146 #[.string s, .int .i64 a, .int .i64 b] w fun e w' => e = .returned (.string (s.extract a b)) ∧ w' = w := by
 go_enter Tryz.func146, Tryz.ntmps146
 go_wp2
 go_ret
 exact ⟨rfl, rfl⟩
theorem kw_key (s : ByteArray) (k : Kw) : (s.toList == k.bytes) = decide (kwOf s.data.toList = some k) := by
 rw [Lib.toList_data]
 by_cases h : kwOf s.data.toList = some k
 ·rw [decide_eq_true h, kwOf_some h]; simp
 ·rw [decide_eq_false h, beq_eq_false_iff_ne]
  intro e; rw [e, kwOf_bytes] at h; exact h rfl
set_option maxRecDepth 100000 in
set_option maxHeartbeats 1000000 in
theorem kindOf_any (s : ByteArray) (w : World) :
  Calls Tryz.prog 147 #[.string s] w fun e w' => e = .returned (.int .i64 ((kindN (wordCl s.data.toList 0) : Nat) : Int)) ∧ w' = w := by
 have f1 := kw_key s .let_
 have f2 := kw_key s .pair
 have f3 := kw_key s .fst
 have f4 := kw_key s .snd
 have f5 := kw_key s .if_
 have f6 := kw_key s .add
 have f7 := kw_key s .sub
 have f8 := kw_key s .less
 have f9 := kw_key s .loop
 have f10 := kw_key s .new
 simp only [Kw.bytes] at f1 f2 f3 f4 f5 f6 f7 f8 f9 f10
 unfold wordCl
 cases hk : kwOf s.data.toList with
 | none =>
  rw [hk] at f1 f2 f3 f4 f5 f6 f7 f8 f9 f10
  simp only [reduceCtorEq, decide_false] at f1 f2 f3 f4 f5 f6 f7 f8 f9 f10
  clear hk
  go_enter Tryz.func147, Tryz.ntmps147
  go_wp2
  go_ret
  exact ⟨rfl, rfl⟩
 | some k =>
  rw [hk] at f1 f2 f3 f4 f5 f6 f7 f8 f9 f10
  clear hk
  cases k
  all_goals
   simp only [Option.some.injEq, reduceCtorEq, decide_false, decide_true] at f1 f2 f3 f4 f5 f6 f7 f8 f9 f10
   go_enter Tryz.func147, Tryz.ntmps147
   go_wp2
   go_ret
   exact ⟨rfl, rfl⟩
def tnVal (t : TN) : Value := .agg #[.int .i64 t.kind, .int .i64 t.at_, .int .i64 t.beh, .string (bs t.word), .int .i64 t.num]
theorem bA_let (s : ByteArray) (k : Nat) (lo hi : Int) (hlo : 0 < lo) : (inB lo hi (bA s k) = true ∧ k < s.size ∧ run lo hi (s.data.toList.drop k) = run lo hi (s.data.toList.drop (k + 1)) + 1) ∨ (inB lo hi (bA s k) = false ∧ run lo hi (s.data.toList.drop k) = 0) := by
 by_cases h : k < s.size
 ·rw [bA_in s k h, drop_cons s k h]
  cases hb : inB lo hi s[k] with
  | true => left; exact ⟨rfl, h, by simp [run, hb]⟩
  | false => right; exact ⟨rfl, by simp [run, hb]⟩
 ·right
  rw [bA_out s k (by omega), drop_end s k (by omega)]
  refine ⟨?_, rfl⟩
  unfold inB
  have h0 : ((0 : UInt8).toNat : Int) = 0 := rfl
  rw [h0, decide_eq_false (by omega : ¬ lo ≤ 0)]; rfl
theorem wordCl_small (l : List UInt8) (n : Nat) (h : n ≤ 8) : wordCl l n = wordCl l 0 := by
 unfold wordCl; cases kwOf l <;> simp [h]
theorem wordCl_big (l : List UInt8) (h : 8 < l.length) : wordCl l l.length = .bad := by
 unfold wordCl
 cases hk : kwOf l with
 | none => simp; omega
 | some k =>
  have := kwOf_some hk
  rw [this] at h
  clear this hk
  revert h
  cases k <;> simp [Kw.bytes]
set_option maxRecDepth 100000 in
set_option maxHeartbeats 1000000 in
theorem readWord_any (s : ByteArray) (a n : Nat) (w : World) (hs : s.size ≤ 9000) (hn : n = run 97 122 (s.data.toList.drop a)) (ha : a + n ≤ s.size) :
  Calls Tryz.prog 138 #[.string s, .int .i64 a] w fun e w' => e = .returned (tnVal ⟨kindN (wordCl ((s.data.toList.drop a).take n) n), a, a + n, if n ≤ 8 then (s.data.toList.drop a).take n else [], 0⟩) ∧ Below w.heap.size w w' := by
 have hby := fun k (h : k ≤ 10000) w => byteAt_any s k w h
 have HN : Hid _ := hn
 clear hn
 go_enter Tryz.func138, Tryz.ntmps138
 go_wp2
 go_loop [5] (fun i => ∃ k j : Nat, k ≤ n ∧ Hid (j = a + k) ∧ j ≤ s.size ∧ i = .int .i64 j ∧ Hid (n = k + run 97 122 (s.data.toList.drop j))) (fun i => s.size - (intOf i).toNat)
 case atStart => exact ⟨0, a, by omega, (rfl : a = a + 0), by omega, rfl, (by rw [← HN.out]; omega : n = 0 + run 97 122 (s.data.toList.drop a))⟩
 case round =>
  obtain ⟨k, j, hk, HJ, hjs, rfl, HR⟩ := hrel
  have hbk := hby j (by omega)
  have hil := fun w => isLetter_any (bA s j) w
  rcases bA_let s j 97 122 (by decide) with ⟨h1, h2, h3⟩ | ⟨h1, h2⟩
  ·rw [h1] at hil
   have H3 : Hid _ := h3
   clear h1 h3
   go_wp2_with (first
    | (go_at_call 136; refine (hbk _).mono ?_; rintro e w' ⟨rfl, rfl⟩)
    | (go_at_call 137; refine (hil _).mono ?_; rintro e w' ⟨rfl, rfl⟩))
   go_round
   case rel => exact ⟨k + 1, j + 1, by have h := HR.out; rw [H3.out] at h; omega, (by have h := HJ.out; omega : j + 1 = a + (k + 1)), by omega, by go_num, (by have h := HR.out; rw [H3.out] at h; omega : n = (k + 1) + run 97 122 (s.data.toList.drop (j + 1)))⟩
   case measure => simp [intOf]; omega
  ·rw [h1] at hil
   have hkn : k = n := by have h := HR.out; rw [h2] at h; omega
   have hja : j = a + n := by rw [← hkn]; exact HJ.out
   clear h1 h2 HR
   have hcu := fun w => cut_any s a j w (by omega) hjs
   have hkd := fun w => kindOf_any (s.extract a j) w
   have hex : (s.extract a j).data.toList = (s.data.toList.drop a).take n := by rw [hja, ext_of]
   rw [hex] at hkd
   have HEX : Hid _ := bs_eq hex
   have HJ' : Hid (j = a + n) := hja
   have hjk : (j : Int) - (a : Int) = (n : Int) := by omega
   clear hex hja hkn HJ hk
   by_cases h8 : n ≤ 8
   ·have H8 : Hid (n ≤ 8) := h8
    go_wp2_with (first
     | (go_at_call 136; refine (hbk _).mono ?_; rintro e w' ⟨rfl, rfl⟩)
     | (go_at_call 137; refine (hil _).mono ?_; rintro e w' ⟨rfl, rfl⟩)
     | (go_at_call 146; refine (hcu _).mono ?_; rintro e w' ⟨rfl, rfl⟩)
     | (go_at_call 147; refine (hkd _).mono ?_; rintro e w' ⟨rfl, rfl⟩))
    refine bodyPost_ret (v := .agg #[.int .i64 ((kindN (wordCl ((s.data.toList.drop a).take n) 0) : Nat) : Int), .int .i64 a, .int .i64 j, .string (s.extract a j), .int .i64 0]) (by simp [results, Tryz.results138, go_sem]) rfl ⟨?_, (Below.refl _ _).alloc (Nat.le_refl _) _⟩
    rw [HEX.out, HJ'.out, wordCl_small _ _ H8.out]; first | rfl | (rw [if_pos H8.out]; rfl)
   ·have H8 : Hid (¬ n ≤ 8) := h8
    have hlen : ((s.data.toList.drop a).take n).length = n := by simp; omega
    have HB : Hid (wordCl ((s.data.toList.drop a).take n) n = .bad) := by
     have := wordCl_big ((s.data.toList.drop a).take n) (by omega)
     rw [hlen] at this; exact this
    clear hlen
    go_wp2_with (first
     | (go_at_call 136; refine (hbk _).mono ?_; rintro e w' ⟨rfl, rfl⟩)
     | (go_at_call 137; refine (hil _).mono ?_; rintro e w' ⟨rfl, rfl⟩))
    refine bodyPost_ret (v := .agg #[.int .i64 1, .int .i64 a, .int .i64 j, .string ⟨#[]⟩, .int .i64 0]) (by simp [results, Tryz.results138, go_sem]) rfl ⟨?_, (Below.refl _ _).alloc (Nat.le_refl _) _⟩
    rw [HB.out, HJ'.out]; first | rfl | (rw [if_neg H8.out]; rfl)
theorem run_mem (lo hi : Int) (l : List UInt8) : ∀ c ∈ l.take (run lo hi l), inB lo hi c = true := by
 induction l with
 | nil => simp
 | cons c r ih =>
  simp only [run]
  by_cases h : inB lo hi c = true
  ·rw [if_pos h, List.take_succ_cons]
   intro x hx
   rcases List.mem_cons.1 hx with rfl | hx
   ·exact h
   ·exact ih x hx
  ·rw [if_neg h]; simp
def numTN (l : List UInt8) (most kind a d n : Nat) : TN := if numeralB (l.take n) most then ⟨kind, a, d + n, [], valueL (l.take n)⟩ else ⟨1, a, d + n, [], 0⟩
set_option maxRecDepth 100000 in
set_option maxHeartbeats 2000000 in
theorem readNumber_any (s : ByteArray) (a d n most kind : Nat) (w : World) (hs : s.size ≤ 9000) (hn : n = run 48 57 (s.data.toList.drop d)) (ha : d + n ≤ s.size) (hm : 3 ≤ most ∧ most ≤ 4) :
  Calls Tryz.prog 140 #[.string s, .int .i64 a, .int .i64 d, .int .i64 most, .int .i64 kind] w fun e w' => e = .returned (tnVal (numTN (s.data.toList.drop d) most kind a d n)) ∧ Below w.heap.size w w' := by
 have hby := fun k (h : k ≤ 10000) w => byteAt_any s k w h
 have hdig : ∀ c ∈ (s.data.toList.drop d).take n, c ≠ 35 := by
  rw [hn]; intro c hc e
  have := run_mem 48 57 _ c hc
  rw [e] at this; revert this; decide
 have HDIG : Hid _ := hdig
 have HN : Hid _ := hn
 have hlen : ((s.data.toList.drop d).take n).length = n := by simp; omega
 have hhead : 0 < n → ((s.data.toList.drop d).take n).head? = some (bA s d) := by
  intro h0
  rw [bA_in s d (by omega), drop_cons s d (by omega)]
  obtain ⟨m, rfl⟩ : ∃ m, n = m + 1 := ⟨n - 1, by omega⟩
  simp
 have hnum : numeralB ((s.data.toList.drop d).take n) most = (decide (0 < n) && decide (n ≤ most) && (decide (n = 1) || (((s.data.toList.drop d).take n).head? != some 48))) := by unfold numeralB; rw [hlen]
 have HNUM : Hid _ := hnum
 have HHEAD : Hid _ := hhead
 clear hn hdig hlen hnum hhead
 go_enter Tryz.func140, Tryz.ntmps140
 go_wp2
 go_loop [11] (fun i => ∃ k j : Nat, k ≤ n ∧ Hid (j = d + k) ∧ j ≤ s.size ∧ i = .int .i64 j ∧ Hid (n = k + run 48 57 (s.data.toList.drop j))) (fun i => s.size - (intOf i).toNat)
 case atStart => exact ⟨0, d, by omega, (rfl : d = d + 0), by omega, rfl, (by rw [← HN.out]; omega : n = 0 + run 48 57 (s.data.toList.drop d))⟩
 case round =>
  obtain ⟨k, j, hk, HJ, hjs, rfl, HR⟩ := hrel
  have hbk := hby j (by omega)
  have hil := fun w => isDigit_any (bA s j) w
  rcases bA_let s j 48 57 (by decide) with ⟨h1, h2, h3⟩ | ⟨h1, h2⟩
  ·rw [h1] at hil
   have H3 : Hid _ := h3
   clear h1 h3
   go_wp2_with (first
    | (go_at_call 136; refine (hbk _).mono ?_; rintro e w' ⟨rfl, rfl⟩)
    | (go_at_call 139; refine (hil _).mono ?_; rintro e w' ⟨rfl, rfl⟩))
   go_round
   case rel => exact ⟨k + 1, j + 1, by have h := HR.out; rw [H3.out] at h; omega, (by have h := HJ.out; omega : j + 1 = d + (k + 1)), by omega, by go_num, (by have h := HR.out; rw [H3.out] at h; omega : n = (k + 1) + run 48 57 (s.data.toList.drop (j + 1)))⟩
   case measure => simp [intOf]; omega
  ·rw [h1] at hil
   have hkn : k = n := by have h := HR.out; rw [h2] at h; omega
   have hja : j = d + n := by rw [← hkn]; exact HJ.out
   clear h1 h2 HR
   have HJ' : Hid (j = d + n) := hja
   have hjk : (j : Int) - (d : Int) = (n : Int) := by omega
   have hbd := hby d (by omega)
   have e48 : (((bA s d).toNat : Int) == 48) = (bA s d == 48) := byte_eq (bA s d) 48
   have HE48 : Hid _ := e48
   clear hja hkn HJ hk e48
   by_cases c0 : n = 0
   ·have b0 : ((n : Int) == 0) = true := by rw [c0]; rfl
    have HF : Hid (numTN (s.data.toList.drop d) most kind a d n = ⟨1, a, d + n, [], 0⟩) := by
     have : numeralB ((s.data.toList.drop d).take n) most = false := by rw [HNUM.out]; simp [c0]
     unfold numTN; rw [this]; rfl
    have c0' : n < 1 := by omega
    clear c0
    go_wp2_with (first
     | (go_at_call_of 136 (Value.int IntKind.i64 (j : Int)); refine (hbk _).mono ?_; rintro e w' ⟨rfl, rfl⟩)
     | (go_at_call_of 136 (Value.int IntKind.i64 (d : Int)); refine (hbd _).mono ?_; rintro e w' ⟨rfl, rfl⟩)
     | (go_at_call 139; refine (hil _).mono ?_; rintro e w' ⟨rfl, rfl⟩)
     | (go_at_call 148; refine (hva _).mono ?_; rintro e w' ⟨rfl, rfl⟩))
    refine bodyPost_ret (v := .agg #[.int .i64 1, .int .i64 a, .int .i64 j, .string ⟨#[]⟩, .int .i64 0]) (by simp [results, Tryz.results140, go_sem]) rfl ⟨?_, (Below.refl _ _).alloc (Nat.le_refl _) _⟩
    rw [HF.out, HJ'.out]; rfl
   ·have b0 : ((n : Int) == 0) = false := by rw [beq_eq_false_iff_ne]; omega
    have c1 : 1 ≤ n := by omega
    have hh := HHEAD.out (by omega)
    by_cases cm : n ≤ most
    ·have hva := fun w => valueOf_any s d n j w hs HJ'.out hjs (by omega) HDIG.out
     by_cases c2 : n = 1
     ·have HF : Hid (numTN (s.data.toList.drop d) most kind a d n = ⟨kind, a, d + n, [], valueL ((s.data.toList.drop d).take n)⟩) := by
       have : numeralB ((s.data.toList.drop d).take n) most = true := by rw [HNUM.out]; simp [c2]; omega
       unfold numTN; rw [this]; rfl
      have c2' : n < 2 := by omega
      clear c2 hh c0
      go_wp2_with (first
       | (go_at_call_of 136 (Value.int IntKind.i64 (j : Int)); refine (hbk _).mono ?_; rintro e w' ⟨rfl, rfl⟩)
       | (go_at_call_of 136 (Value.int IntKind.i64 (d : Int)); refine (hbd _).mono ?_; rintro e w' ⟨rfl, rfl⟩)
       | (go_at_call 139; refine (hil _).mono ?_; rintro e w' ⟨rfl, rfl⟩)
       | (go_at_call 148; refine (hva _).mono ?_; rintro e w' ⟨rfl, rfl⟩))
      refine bodyPost_ret (v := .agg #[.int .i64 kind, .int .i64 a, .int .i64 j, .string ⟨#[]⟩, .int .i64 (valueL ((s.data.toList.drop d).take n))]) (by simp [results, Tryz.results140, go_sem]) rfl ⟨?_, (Below.refl _ _).alloc (Nat.le_refl _) _⟩
      rw [HF.out, HJ'.out]; rfl
     ·cases e0 : (bA s d == 48) with
      | true =>
       have b48 : (((bA s d).toNat : Int) == 48) = true := by rw [HE48.out]; exact e0
       have HF : Hid (numTN (s.data.toList.drop d) most kind a d n = ⟨1, a, d + n, [], 0⟩) := by
        have h48 : bA s d = 48 := by simpa using e0
        have : numeralB ((s.data.toList.drop d).take n) most = false := by rw [HNUM.out, hh, h48]; simp [c2]
        unfold numTN; rw [this]; rfl
       have c2' : 1 < n := by omega
       clear c2 hh c0 e0
       go_wp2_with (first
        | (go_at_call_of 136 (Value.int IntKind.i64 (j : Int)); refine (hbk _).mono ?_; rintro e w' ⟨rfl, rfl⟩)
        | (go_at_call_of 136 (Value.int IntKind.i64 (d : Int)); refine (hbd _).mono ?_; rintro e w' ⟨rfl, rfl⟩)
        | (go_at_call 139; refine (hil _).mono ?_; rintro e w' ⟨rfl, rfl⟩)
        | (go_at_call 148; refine (hva _).mono ?_; rintro e w' ⟨rfl, rfl⟩))
       refine bodyPost_ret (v := .agg #[.int .i64 1, .int .i64 a, .int .i64 j, .string ⟨#[]⟩, .int .i64 0]) (by simp [results, Tryz.results140, go_sem]) rfl ⟨?_, (Below.refl _ _).alloc (Nat.le_refl _) _⟩
       rw [HF.out, HJ'.out]; rfl
      | false =>
       have b48 : (((bA s d).toNat : Int) == 48) = false := by rw [HE48.out]; exact e0
       have HF : Hid (numTN (s.data.toList.drop d) most kind a d n = ⟨kind, a, d + n, [], valueL ((s.data.toList.drop d).take n)⟩) := by
        have h48 : bA s d ≠ 48 := by simpa using e0
        have : numeralB ((s.data.toList.drop d).take n) most = true := by rw [HNUM.out, hh]; simp [h48, cm]; omega
        unfold numTN; rw [this]; rfl
       have c2' : 1 < n := by omega
       clear c2 hh c0 e0
       go_wp2_with (first
        | (go_at_call_of 136 (Value.int IntKind.i64 (j : Int)); refine (hbk _).mono ?_; rintro e w' ⟨rfl, rfl⟩)
        | (go_at_call_of 136 (Value.int IntKind.i64 (d : Int)); refine (hbd _).mono ?_; rintro e w' ⟨rfl, rfl⟩)
        | (go_at_call 139; refine (hil _).mono ?_; rintro e w' ⟨rfl, rfl⟩)
        | (go_at_call 148; refine (hva _).mono ?_; rintro e w' ⟨rfl, rfl⟩))
       refine bodyPost_ret (v := .agg #[.int .i64 kind, .int .i64 a, .int .i64 j, .string ⟨#[]⟩, .int .i64 (valueL ((s.data.toList.drop d).take n))]) (by simp [results, Tryz.results140, go_sem]) rfl ⟨?_, (Below.refl _ _).alloc (Nat.le_refl _) _⟩
       rw [HF.out, HJ'.out]; rfl
    ·have HF : Hid (numTN (s.data.toList.drop d) most kind a d n = ⟨1, a, d + n, [], 0⟩) := by
      have : numeralB ((s.data.toList.drop d).take n) most = false := by rw [HNUM.out]; simp [cm]
      unfold numTN; rw [this]; rfl
     have c2' : 1 < n := by omega
     clear hh c0
     go_wp2_with (first
      | (go_at_call_of 136 (Value.int IntKind.i64 (j : Int)); refine (hbk _).mono ?_; rintro e w' ⟨rfl, rfl⟩)
      | (go_at_call_of 136 (Value.int IntKind.i64 (d : Int)); refine (hbd _).mono ?_; rintro e w' ⟨rfl, rfl⟩)
      | (go_at_call 139; refine (hil _).mono ?_; rintro e w' ⟨rfl, rfl⟩)
      | (go_at_call 148; refine (hva _).mono ?_; rintro e w' ⟨rfl, rfl⟩))
     refine bodyPost_ret (v := .agg #[.int .i64 1, .int .i64 a, .int .i64 j, .string ⟨#[]⟩, .int .i64 0]) (by simp [results, Tryz.results140, go_sem]) rfl ⟨?_, (Below.refl _ _).alloc (Nat.le_refl _) _⟩
     rw [HF.out, HJ'.out]; rfl
theorem st_row {P : Program} {ops : Array Oper} {rest : List Oper} {o : Oper} {a : Act} {w : World} {Q : Exit → Act → World → Prop} (hgd : o.guard = none) (ty : TypeId) (x y : Operand) (ho : o.op = .store ty x y)
  (g : Nat) (cells : Array Value) (hx : a.eval x = .pointer (some ⟨g, 0, none⟩)) (hy : a.eval y = .agg cells)
  (t : TypeId) (old : Array Value) (hg : w.heap[g]? = some (.cells old t (0, 0))) (hi : (P.info? ty).map (·.size) = some cells.size)
  (hold : old.size = cells.size) (h1 : cells.all (·.oneCell') = true)
  (h : ∀ W : World, W.heap[g]? = some (.cells cells t (0, 0)) → W.heap.size = w.heap.size → (∀ k, k ≠ g → W.heap[k]? = w.heap[k]?) → W.os = w.os → W.tape = w.tape → W.output = w.output →
   wpList P ops Q rest (a.put o.dst undef) W) : wpList P ops Q (o :: rest) a w := by
 refine wpList_store_row hgd ty x y ho g cells hx hy t old hg hi hold h1 ?_
 exact h _ (setRow_heap w g old cells t (0, 0) hg) (by simp) (fun k hk => setRow_other w g k cells hk) rfl rfl rfl
theorem below_new {B g : Nat} {w0 w W : World} (hb : Below B w0 w) (hg : B ≤ g) (hs : W.heap.size = w.heap.size) (ho : ∀ k, k ≠ g → W.heap[k]? = w.heap[k]?) (e1 : W.os = w.os) (e2 : W.tape = w.tape) (e3 : W.output = w.output) : Below B w0 W :=
 ⟨e1.trans hb.os, e2.trans hb.tape, e3.trans hb.output, by rw [hs]; exact hb.size, fun k hk => by rw [ho k (by omega)]; exact hb.block k hk⟩
theorem Tryz.infoTN : (Tryz.prog.info? 159).map (·.size) = some 5 := by kernel_rfl
theorem tn_one (T : TN) : (#[Value.int .i64 T.kind, .int .i64 T.at_, .int .i64 T.beh, .string (bs T.word), .int .i64 T.num] : Array Value).all (·.oneCell') = true := by simp [Value.oneCell']
theorem tks_blank (s : ByteArray) (k : Nat) (hk : k < s.size) (h : blankB s[k] = true) : tksAt s.data.toList k = tksAt s.data.toList (k + 1) := by
 unfold tksAt; rw [size_list]; exact toks_step_blank s k hk h
theorem tks_tok (s : ByteArray) (k : Nat) (hk : k < s.size) (h : blankB s[k] = false) : tksAt s.data.toList k = tkAt s k :: tksAt s.data.toList (k + (tokenOf (s.data.toList.drop k)).1) := by
 unfold tksAt; rw [size_list]; exact toks_step_tok s k hk h
theorem tks_end (s : ByteArray) (k : Nat) (hk : s.size ≤ k) : tksAt s.data.toList k = [] := by
 unfold tksAt; rw [size_list, show s.size - k = 0 from by omega]; rfl
theorem tks_skip (s : ByteArray) : ∀ (m a : Nat), s.size - a ≤ m → tksAt s.data.toList (a + nbl (s.data.toList.drop a)) = tksAt s.data.toList a ∧ (∀ h : a + nbl (s.data.toList.drop a) < s.size, blankB (s[a + nbl (s.data.toList.drop a)]) = false) := by
 intro m
 induction m with
 | zero =>
  intro a h
  have : nbl (s.data.toList.drop a) = 0 := by rw [drop_end s a (by omega)]; rfl
  rw [this]; exact ⟨rfl, fun h' => by omega⟩
 | succ m ih =>
  intro a h
  by_cases hlt : a < s.size
  ·cases hb : blankB s[a] with
   | true =>
    have e : a + nbl (s.data.toList.drop a) = (a + 1) + nbl (s.data.toList.drop (a + 1)) := by rw [drop_cons s a hlt]; simp [nbl, hb]; omega
    obtain ⟨h1, h2⟩ := ih (a + 1) (by omega)
    refine ⟨?_, ?_⟩
    ·rw [e, h1, tks_blank s a hlt hb]
    ·simp only [e]; exact h2
   | false =>
    have e : nbl (s.data.toList.drop a) = 0 := by rw [drop_cons s a hlt]; simp [nbl, hb]
    refine ⟨by rw [e, Nat.add_zero], ?_⟩
    simp only [e, Nat.add_zero]
    intro _; exact hb
  ·have : nbl (s.data.toList.drop a) = 0 := by rw [drop_end s a (by omega)]; rfl
   rw [this]; exact ⟨rfl, fun h' => by omega⟩
theorem tn_at (s : ByteArray) (p : Nat) (hp : p < s.size) : tnOf (tkAt s p) = ⟨kindN (tokenOf (s.data.toList.drop p)).2, p, p + (tokenOf (s.data.toList.drop p)).1, wordN (tkAt s p), numN (tkAt s p)⟩ := by
 unfold tnOf; rw [tkAt_len s p hp]; rfl
theorem run_zero (s : ByteArray) (p : Nat) (lo hi : Int) (hp : p < s.size) (h : inB lo hi s[p] = false) : run lo hi (s.data.toList.drop p) = 0 := by
 rw [drop_cons s p hp]; simp [run, h]
theorem run_pos (s : ByteArray) (p : Nat) (lo hi : Int) (hp : p < s.size) (h : inB lo hi s[p] = true) : 0 < run lo hi (s.data.toList.drop p) := by
 rw [drop_cons s p hp]; simp [run, h]
theorem tok_other (s : ByteArray) (p : Nat) (hp : p < s.size) (hl : inB 97 122 s[p] = false) (hd : inB 48 57 s[p] = false) (h35 : s[p] ≠ 35) :
  tokenOf (s.data.toList.drop p) = (1, if s[p] = 40 then .opn else if s[p] = 41 then .cls else .bad) := by
 unfold tokenOf
 rw [run_zero s p 97 122 hp hl, run_zero s p 48 57 hp hd, if_neg (by omega), if_neg (by omega), drop_cons s p hp]
 simp only
 rw [if_neg h35]
theorem tn_other (s : ByteArray) (p : Nat) (hp : p < s.size) (hl : inB 97 122 s[p] = false) (hd : inB 48 57 s[p] = false) (h35 : s[p] ≠ 35) :
  tnOf (tkAt s p) = ⟨if s[p] = 40 then 2 else if s[p] = 41 then 3 else 1, p, p + 1, [], 0⟩ := by
 have h := tok_other s p hp hl hd h35
 rw [tn_at s p hp]
 unfold wordN numN tkAt
 rw [h]
 by_cases h40 : s[p] = 40
 ·simp [h40, kindN]
 ·by_cases h41 : s[p] = 41
  ·simp [h41, kindN]
  ·simp [h40, h41, kindN]
theorem tn_word (s : ByteArray) (p n : Nat) (hp : p < s.size) (hn : n = run 97 122 (s.data.toList.drop p)) (h0 : 0 < n) :
  tnOf (tkAt s p) = ⟨kindN (wordCl ((s.data.toList.drop p).take n) n), p, p + n, if n ≤ 8 then (s.data.toList.drop p).take n else [], 0⟩ := by
 have h : tokenOf (s.data.toList.drop p) = (n, wordCl ((s.data.toList.drop p).take n) n) := by unfold tokenOf; rw [← hn, if_pos h0]
 have hlen : ((s.data.toList.drop p).take n).length = n := by
  have := run_le 97 122 (s.data.toList.drop p)
  rw [List.length_take]; omega
 rw [tn_at s p hp]
 unfold wordN numN tkAt
 rw [h]
 simp only
 by_cases h8 : n ≤ 8
 ·rw [if_pos h8]
  unfold wordCl
  cases kwOf ((s.data.toList.drop p).take n) with
  | some k => rfl
  | none => simp [h8]
 ·rw [if_neg h8]
  have := wordCl_big ((s.data.toList.drop p).take n) (by omega)
  rw [hlen] at this
  rw [this]
theorem tn_num (s : ByteArray) (p n : Nat) (hp : p < s.size) (hl : inB 97 122 s[p] = false) (hn : n = run 48 57 (s.data.toList.drop p)) (h0 : 0 < n) :
  tnOf (tkAt s p) = numTN (s.data.toList.drop p) 4 5 p p n := by
 have h : tokenOf (s.data.toList.drop p) = (n, if numeralB ((s.data.toList.drop p).take n) 4 then .num else .bad) := by
  unfold tokenOf; rw [run_zero s p 97 122 hp hl, if_neg (by omega), ← hn, if_pos h0]
 rw [tn_at s p hp]
 unfold wordN numN tkAt numTN
 rw [h]
 simp only
 cases numeralB ((s.data.toList.drop p).take n) 4 with
 | true => simp [kindN]
 | false => simp [kindN]
theorem valueL_hash (l : List UInt8) : valueL (35 :: l) = valueL l := by unfold valueL; simp
theorem tn_reg (s : ByteArray) (p n : Nat) (hp : p < s.size) (h35 : s[p] = 35) (hn : n = run 48 57 (s.data.toList.drop (p + 1))) :
  tnOf (tkAt s p) = numTN (s.data.toList.drop (p + 1)) 3 6 p (p + 1) n := by
 have hl : inB 97 122 s[p] = false := by rw [h35]; decide
 have hd : inB 48 57 s[p] = false := by rw [h35]; decide
 have h : tokenOf (s.data.toList.drop p) = (n + 1, if numeralB ((s.data.toList.drop (p + 1)).take n) 3 then .reg else .bad) := by
  unfold tokenOf
  rw [run_zero s p 97 122 hp hl, run_zero s p 48 57 hp hd, if_neg (by omega), if_neg (by omega), drop_cons s p hp]
  simp only
  rw [if_pos h35, ← hn]
 rw [tn_at s p hp]
 unfold wordN numN tkAt numTN
 rw [h]
 simp only
 have ht : (s.data.toList.drop p).take (n + 1) = 35 :: (s.data.toList.drop (p + 1)).take n := by rw [drop_cons s p hp, List.take_succ_cons, h35]
 rw [ht]
 cases numeralB ((s.data.toList.drop (p + 1)).take n) 3 with
 | true => simp [kindN, valueL_hash]; omega
 | false => simp [kindN]; omega
set_option maxRecDepth 100000 in
set_option maxHeartbeats 2000000 in
theorem Next_any (s : ByteArray) (a : Nat) (w : World) (hs : s.size ≤ 9000) (ha : a ≤ s.size) :
  Calls Tryz.prog 130 #[.string s, .int .i64 a] w fun e w' => e = .returned (tnVal (tk1 s.size (tksAt s.data.toList a))) ∧ Below w.heap.size w w' := by
 obtain ⟨hsk1, hsk2⟩ := tks_skip s s.size a (by omega)
 have hnl := nbl_le (s.data.toList.drop a)
 rw [List.length_drop, size_list] at hnl
 have hskp := fun w => skipBlanks_any s a w hs ha
 rw [← hsk1]
 obtain ⟨p, hp⟩ : ∃ p, p = a + nbl (s.data.toList.drop a) := ⟨_, rfl⟩
 have hps : p ≤ s.size := by omega
 have hsk3 : ∀ h : p < s.size, blankB s[p] = false := by subst hp; exact hsk2
 clear hsk2
 rw [← hp] at hskp ⊢
 clear hp hnl hsk1
 have hby := fun w => byteAt_any s p w (by omega)
 by_cases hlt : p < s.size
 ·have hb := hsk3 hlt
  clear hsk3
  have htk : tk1 s.size (tksAt s.data.toList p) = tnOf (tkAt s p) := by rw [tks_tok s p hlt hb]; rfl
  rw [htk]
  clear htk hb
  rw [bA_in s p hlt] at hby
  have hle := fun w => isLetter_any s[p] w
  have hdi := fun w => isDigit_any s[p] w
  have e40 : ((s[p].toNat : Int) == 40) = (s[p] == 40) := byte_eq s[p] 40
  have e41 : ((s[p].toNat : Int) == 41) = (s[p] == 41) := byte_eq s[p] 41
  have e35 : ((s[p].toNat : Int) == 35) = (s[p] == 35) := byte_eq s[p] 35
  cases hL : inB 97 122 s[p] with
  | true =>
   have d40 : ((s[p].toNat : Int) == 40) = false := by
    rw [beq_eq_false_iff_ne]; unfold inB at hL; simp only [Bool.and_eq_true, decide_eq_true_eq] at hL; omega
   have d41 : ((s[p].toNat : Int) == 41) = false := by
    rw [beq_eq_false_iff_ne]; unfold inB at hL; simp only [Bool.and_eq_true, decide_eq_true_eq] at hL; omega
   obtain ⟨n, hn⟩ : ∃ n, n = run 97 122 (s.data.toList.drop p) := ⟨_, rfl⟩
   have h0 : 0 < n := by rw [hn]; exact run_pos s p 97 122 hlt hL
   have hrl := run_le 97 122 (s.data.toList.drop p)
   rw [List.length_drop, size_list, ← hn] at hrl
   have hrw := fun w => readWord_any s p n w hs hn (by omega)
   rw [← tn_word s p n hlt hn h0] at hrw
   rw [hL] at hle
   generalize tnOf (tkAt s p) = T at hrw
   unfold tnVal at hrw
   clear e40 e41 e35 hL hn h0 hrl
   go_enter Tryz.func130, Tryz.ntmps130
   go_wp2_with (first
    | (go_at_call 135; refine (hskp _).mono ?_; rintro e w' ⟨rfl, rfl⟩)
    | (go_at_call 136; refine (hby _).mono ?_; rintro e w' ⟨rfl, rfl⟩)
    | (go_at_call 137; refine (hle _).mono ?_; rintro e w' ⟨rfl, rfl⟩)
    | (go_at_call 139; refine (hdi _).mono ?_; rintro e w' ⟨rfl, rfl⟩))
   refine (hrw _).mono ?_
   rintro e w1 ⟨rfl, hb1⟩
   have hgb : w1.heap[w.heap.size]? = some (.cells #[.int .i64 0, .int .i64 0, .int .i64 0, .string ⟨#[]⟩, .int .i64 0] 159 (0, 0)) := by
    rw [hb1.block w.heap.size (by simp)]; exact blk_new _ _
   go_wp2_with (refine st_row rfl 159 (.tmp 4) (.tmp 41) rfl w.heap.size #[.int .i64 T.kind, .int .i64 T.at_, .int .i64 T.beh, .string (bs T.word), .int .i64 T.num] rfl rfl 159 _ hgb Tryz.infoTN rfl (tn_one T) ?_; intro W hW hWs hWo hW1 hW2 hW3)
   have c0 : W.cell? ⟨w.heap.size, 0, none⟩ = some (.int .i64 T.kind) := by rw [blk_cell hW]; rfl
   have c1 : W.cell? ⟨w.heap.size, 1, none⟩ = some (.int .i64 T.at_) := by rw [blk_cell hW]; rfl
   have c2 : W.cell? ⟨w.heap.size, 2, none⟩ = some (.int .i64 T.beh) := by rw [blk_cell hW]; rfl
   have c3 : W.cell? ⟨w.heap.size, 3, none⟩ = some (.string (bs T.word)) := by rw [blk_cell hW]; rfl
   have c4 : W.cell? ⟨w.heap.size, 4, none⟩ = some (.int .i64 T.num) := by rw [blk_cell hW]; rfl
   have hBW : Below w.heap.size w W := below_new (((Below.refl _ w).alloc (Nat.le_refl _) _).trans (hb1.mono (by simp))) (Nat.le_refl _) hWs hWo hW1 hW2 hW3
   have HBW : Hid _ := hBW
   clear hW hWs hWo hW1 hW2 hW3 hb1 hBW
   refine bodyPost_ret (v := .agg #[.int .i64 T.kind, .int .i64 T.at_, .int .i64 T.beh, .string (bs T.word), .int .i64 T.num]) (by simp [results, Tryz.results130, go_sem, c0, c1, c2, c3, c4]) rfl ⟨rfl, HBW.out⟩
  | false =>
   rw [hL] at hle
   cases hD : inB 48 57 s[p] with
   | true =>
    have d40 : ((s[p].toNat : Int) == 40) = false := by
     rw [beq_eq_false_iff_ne]; unfold inB at hD; simp only [Bool.and_eq_true, decide_eq_true_eq] at hD; omega
    have d41 : ((s[p].toNat : Int) == 41) = false := by
     rw [beq_eq_false_iff_ne]; unfold inB at hD; simp only [Bool.and_eq_true, decide_eq_true_eq] at hD; omega
    obtain ⟨n, hn⟩ : ∃ n, n = run 48 57 (s.data.toList.drop p) := ⟨_, rfl⟩
    have h0 : 0 < n := by rw [hn]; exact run_pos s p 48 57 hlt hD
    have hrl := run_le 48 57 (s.data.toList.drop p)
    rw [List.length_drop, size_list, ← hn] at hrl
    have hrn := fun w => readNumber_any s p p n 4 5 w hs hn (by omega) (by omega)
    rw [← tn_num s p n hlt hL hn h0] at hrn
    rw [hD] at hdi
    generalize tnOf (tkAt s p) = T at hrn
    unfold tnVal at hrn
    clear e40 e41 e35 hL hD hn h0 hrl
    go_enter Tryz.func130, Tryz.ntmps130
    go_wp2_with (first
     | (go_at_call 135; refine (hskp _).mono ?_; rintro e w' ⟨rfl, rfl⟩)
     | (go_at_call 136; refine (hby _).mono ?_; rintro e w' ⟨rfl, rfl⟩)
     | (go_at_call 137; refine (hle _).mono ?_; rintro e w' ⟨rfl, rfl⟩)
     | (go_at_call 139; refine (hdi _).mono ?_; rintro e w' ⟨rfl, rfl⟩))
    refine (hrn _).mono ?_
    rintro e w1 ⟨rfl, hb1⟩
    have hgb : w1.heap[w.heap.size]? = some (.cells #[.int .i64 0, .int .i64 0, .int .i64 0, .string ⟨#[]⟩, .int .i64 0] 159 (0, 0)) := by
     rw [hb1.block w.heap.size (by simp)]; exact blk_new _ _
    go_wp2_with (refine st_row rfl 159 (.tmp 4) (.tmp 48) rfl w.heap.size #[.int .i64 T.kind, .int .i64 T.at_, .int .i64 T.beh, .string (bs T.word), .int .i64 T.num] rfl rfl 159 _ hgb Tryz.infoTN rfl (tn_one T) ?_; intro W hW hWs hWo hW1 hW2 hW3)
    have c0 : W.cell? ⟨w.heap.size, 0, none⟩ = some (.int .i64 T.kind) := by rw [blk_cell hW]; rfl
    have c1 : W.cell? ⟨w.heap.size, 1, none⟩ = some (.int .i64 T.at_) := by rw [blk_cell hW]; rfl
    have c2 : W.cell? ⟨w.heap.size, 2, none⟩ = some (.int .i64 T.beh) := by rw [blk_cell hW]; rfl
    have c3 : W.cell? ⟨w.heap.size, 3, none⟩ = some (.string (bs T.word)) := by rw [blk_cell hW]; rfl
    have c4 : W.cell? ⟨w.heap.size, 4, none⟩ = some (.int .i64 T.num) := by rw [blk_cell hW]; rfl
    have hBW : Below w.heap.size w W := below_new (((Below.refl _ w).alloc (Nat.le_refl _) _).trans (hb1.mono (by simp))) (Nat.le_refl _) hWs hWo hW1 hW2 hW3
    have HBW : Hid _ := hBW
    clear hW hWs hWo hW1 hW2 hW3 hb1 hBW
    refine bodyPost_ret (v := .agg #[.int .i64 T.kind, .int .i64 T.at_, .int .i64 T.beh, .string (bs T.word), .int .i64 T.num]) (by simp [results, Tryz.results130, go_sem, c0, c1, c2, c3, c4]) rfl ⟨rfl, HBW.out⟩
   | false =>
    rw [hD] at hdi
    by_cases h35 : s[p] = 35
    ·have d35 : ((s[p].toNat : Int) == 35) = true := by rw [e35]; simpa using h35
     have d40 : ((s[p].toNat : Int) == 40) = false := by rw [e40, h35]; rfl
     have d41 : ((s[p].toNat : Int) == 41) = false := by rw [e41, h35]; rfl
     obtain ⟨n, hn⟩ : ∃ n, n = run 48 57 (s.data.toList.drop (p + 1)) := ⟨_, rfl⟩
     have hrl := run_le 48 57 (s.data.toList.drop (p + 1))
     rw [List.length_drop, size_list, ← hn] at hrl
     have hrn := fun w => readNumber_any s p (p + 1) n 3 6 w hs hn (by omega) (by omega)
     rw [← tn_reg s p n hlt h35 hn] at hrn
     generalize tnOf (tkAt s p) = T at hrn
     unfold tnVal at hrn
     rw [Int.natCast_add] at hrn
     clear e40 e41 e35 hL hD hn hrl h35
     go_enter Tryz.func130, Tryz.ntmps130
     go_wp2_with (first
      | (go_at_call 135; refine (hskp _).mono ?_; rintro e w' ⟨rfl, rfl⟩)
      | (go_at_call 136; refine (hby _).mono ?_; rintro e w' ⟨rfl, rfl⟩)
      | (go_at_call 137; refine (hle _).mono ?_; rintro e w' ⟨rfl, rfl⟩)
      | (go_at_call 139; refine (hdi _).mono ?_; rintro e w' ⟨rfl, rfl⟩))
     refine (hrn _).mono ?_
     rintro e w1 ⟨rfl, hb1⟩
     have hgb : w1.heap[w.heap.size]? = some (.cells #[.int .i64 0, .int .i64 0, .int .i64 0, .string ⟨#[]⟩, .int .i64 0] 159 (0, 0)) := by
      rw [hb1.block w.heap.size (by simp)]; exact blk_new _ _
     go_wp2_with (refine st_row rfl 159 (.tmp 4) (.tmp 56) rfl w.heap.size #[.int .i64 T.kind, .int .i64 T.at_, .int .i64 T.beh, .string (bs T.word), .int .i64 T.num] rfl rfl 159 _ hgb Tryz.infoTN rfl (tn_one T) ?_; intro W hW hWs hWo hW1 hW2 hW3)
     have c0 : W.cell? ⟨w.heap.size, 0, none⟩ = some (.int .i64 T.kind) := by rw [blk_cell hW]; rfl
     have c1 : W.cell? ⟨w.heap.size, 1, none⟩ = some (.int .i64 T.at_) := by rw [blk_cell hW]; rfl
     have c2 : W.cell? ⟨w.heap.size, 2, none⟩ = some (.int .i64 T.beh) := by rw [blk_cell hW]; rfl
     have c3 : W.cell? ⟨w.heap.size, 3, none⟩ = some (.string (bs T.word)) := by rw [blk_cell hW]; rfl
     have c4 : W.cell? ⟨w.heap.size, 4, none⟩ = some (.int .i64 T.num) := by rw [blk_cell hW]; rfl
     have hBW : Below w.heap.size w W := below_new (((Below.refl _ w).alloc (Nat.le_refl _) _).trans (hb1.mono (by simp))) (Nat.le_refl _) hWs hWo hW1 hW2 hW3
     have HBW : Hid _ := hBW
     clear hW hWs hWo hW1 hW2 hW3 hb1 hBW
     refine bodyPost_ret (v := .agg #[.int .i64 T.kind, .int .i64 T.at_, .int .i64 T.beh, .string (bs T.word), .int .i64 T.num]) (by simp [results, Tryz.results130, go_sem, c0, c1, c2, c3, c4]) rfl ⟨rfl, HBW.out⟩
    ·have d35 : ((s[p].toNat : Int) == 35) = false := by rw [e35]; simpa using h35
     have htn := tn_other s p hlt hL hD h35
     rw [htn]
     clear htn e35 hL hD h35
     by_cases h40 : s[p] = 40
     ·have d40 : ((s[p].toNat : Int) == 40) = true := by rw [e40]; simpa using h40
      have H40 : Hid _ := h40
      clear h40 e40 e41
      go_enter Tryz.func130, Tryz.ntmps130
      go_wp2_with (first
       | (go_at_call 135; refine (hskp _).mono ?_; rintro e w' ⟨rfl, rfl⟩)
       | (go_at_call 136; refine (hby _).mono ?_; rintro e w' ⟨rfl, rfl⟩))
      refine bodyPost_ret (v := .agg #[.int .i64 2, .int .i64 p, .int .i64 ((p : Int) + 1), .string ⟨#[]⟩, .int .i64 0]) (by simp [results, Tryz.results130, go_sem]) rfl ⟨?_, (Below.refl _ _).alloc (Nat.le_refl _) _⟩
      first | rfl | (simp only [if_pos H40.out]; rfl) | (unfold tnVal; simp only [if_pos H40.out]; rfl)
     ·have d40 : ((s[p].toNat : Int) == 40) = false := by rw [e40]; simpa using h40
      have H40 : Hid _ := h40
      clear h40 e40
      by_cases h41 : s[p] = 41
      ·have d41 : ((s[p].toNat : Int) == 41) = true := by rw [e41]; simpa using h41
       have H41 : Hid _ := h41
       clear h41 e41
       go_enter Tryz.func130, Tryz.ntmps130
       go_wp2_with (first
        | (go_at_call 135; refine (hskp _).mono ?_; rintro e w' ⟨rfl, rfl⟩)
        | (go_at_call 136; refine (hby _).mono ?_; rintro e w' ⟨rfl, rfl⟩))
       refine bodyPost_ret (v := .agg #[.int .i64 3, .int .i64 p, .int .i64 ((p : Int) + 1), .string ⟨#[]⟩, .int .i64 0]) (by simp [results, Tryz.results130, go_sem]) rfl ⟨?_, (Below.refl _ _).alloc (Nat.le_refl _) _⟩
       first | rfl | (simp only [if_neg H40.out, if_pos H41.out]; rfl) | (unfold tnVal; simp only [if_neg H40.out, if_pos H41.out]; rfl)
      ·have d41 : ((s[p].toNat : Int) == 41) = false := by rw [e41]; simpa using h41
       have H41 : Hid _ := h41
       clear h41 e41
       go_enter Tryz.func130, Tryz.ntmps130
       go_wp2_with (first
        | (go_at_call 135; refine (hskp _).mono ?_; rintro e w' ⟨rfl, rfl⟩)
        | (go_at_call 136; refine (hby _).mono ?_; rintro e w' ⟨rfl, rfl⟩)
        | (go_at_call 137; refine (hle _).mono ?_; rintro e w' ⟨rfl, rfl⟩)
        | (go_at_call 139; refine (hdi _).mono ?_; rintro e w' ⟨rfl, rfl⟩))
       refine bodyPost_ret (v := .agg #[.int .i64 1, .int .i64 p, .int .i64 ((p : Int) + 1), .string ⟨#[]⟩, .int .i64 0]) (by simp [results, Tryz.results130, go_sem]) rfl ⟨?_, (Below.refl _ _).alloc (Nat.le_refl _) _⟩
       first | rfl | (simp only [if_neg H40.out, if_neg H41.out]; rfl) | (unfold tnVal; simp only [if_neg H40.out, if_neg H41.out]; rfl)
 ·have htk : tksAt s.data.toList p = [] := tks_end s p (by omega)
  rw [htk]
  clear htk hsk3
  go_enter Tryz.func130, Tryz.ntmps130
  go_wp2_with (go_at_call 135; refine (hskp _).mono ?_; rintro e w' ⟨rfl, rfl⟩)
  refine bodyPost_ret (v := .agg #[.int .i64 0, .int .i64 s.size, .int .i64 s.size, .string ⟨#[]⟩, .int .i64 0]) (by simp [results, Tryz.results130, go_sem]) rfl ⟨rfl, (Below.refl _ _).alloc (Nat.le_refl _) _⟩
end Go.Proofs.YtpicaknklgccoabGreatDoor
