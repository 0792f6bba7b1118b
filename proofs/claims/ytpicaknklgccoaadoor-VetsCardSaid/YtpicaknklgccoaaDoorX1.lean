import Derived.Test.YtpicaknklgccoaaDoorProg
import Derived.WalkKit
import Derived.WalkSpells
import Derived.WalkLawsBesides
import Derived.Lib.Strings
import Derived.Lib.IndexBytes
import Derived.Deep.RegionWith
namespace Go.Proofs.YtpicaknklgccoaaDoor
def inB (lo hi : Int) (c : UInt8) : Bool := decide (lo ≤ (c.toNat : Int)) && decide ((c.toNat : Int) ≤ hi)
def run (lo hi : Int) : List UInt8 → Nat
 | [] => 0
 | c :: r => if inB lo hi c then run lo hi r + 1 else 0
theorem run_le (lo hi : Int) (l : List UInt8) : run lo hi l ≤ l.length := by
 induction l with
 | nil => simp [run]
 | cons c r ih => simp only [run]; split <;> simp <;> omega
def numeralB (l : List UInt8) (most : Nat) : Bool := decide (0 < l.length) && decide (l.length ≤ most) && (decide (l.length = 1) || (l.head? != some 48))
def valueL (l : List UInt8) : Int := l.foldl (fun n c => if c = 35 then n else 10 * n + (c.toNat : Int) - 48) 0
theorem valueL_snoc (l : List UInt8) (c : UInt8) : valueL (l ++ [c]) = if c = 35 then valueL l else 10 * valueL l + (c.toNat : Int) - 48 := by
 unfold valueL; rw [List.foldl_append]; rfl
theorem fold_bd (l : List UInt8) : ∀ (j : Nat) (a : Int), -(30 * 10 ^ j - 30) ≤ a → a ≤ 30 * 10 ^ j - 30 →
  -(30 * 10 ^ (j + l.length) - 30) ≤ l.foldl (fun n c => if c = 35 then n else 10 * n + (c.toNat : Int) - 48) a ∧ l.foldl (fun n c => if c = 35 then n else 10 * n + (c.toNat : Int) - 48) a ≤ 30 * 10 ^ (j + l.length) - 30 := by
 induction l with
 | nil => intro j a h1 h2; exact ⟨h1, h2⟩
 | cons c r ih =>
  intro j a h1 h2
  have hp : 0 < (10 : Int) ^ j := Int.pow_pos (by omega)
  have hc : c.toNat < 256 := c.toNat_lt
  have e : (10 : Int) ^ (j + 1) = 10 * 10 ^ j := by rw [Int.pow_succ]; omega
  have := ih (j + 1) (if c = 35 then a else 10 * a + (c.toNat : Int) - 48) (by rw [e]; split <;> omega) (by rw [e]; split <;> omega)
  rw [List.length_cons, show j + (r.length + 1) = j + 1 + r.length from by omega]
  exact this
theorem valueL_bd (l : List UInt8) : -(30 * 10 ^ l.length - 30) ≤ valueL l ∧ valueL l ≤ 30 * 10 ^ l.length - 30 := by
 have := fold_bd l 0 0 (by decide) (by decide)
 simpa [valueL] using this
def amongL (s : List UInt8) : List UInt8 → List UInt8 → Bool
 | cur, [] => cur == s
 | cur, c :: r => if c = 32 then (cur == s) || amongL s [] r else amongL s (cur ++ [c]) r
def sizeL (l : List UInt8) : Nat := (l.filter fun c => c == 60).length
theorem sizeL_snoc (l : List UInt8) (c : UInt8) : sizeL (l ++ [c]) = sizeL l + if c == 60 then 1 else 0 := by
 unfold sizeL; rw [List.filter_append]; cases h : c == 60 <;> simp [h]
theorem sizeL_le (l : List UInt8) : sizeL l ≤ l.length := by unfold sizeL; exact List.length_filter_le _ _
inductive Kw | let_ | pair | fst | snd | if_ | add | sub | less | loop | new
 deriving DecidableEq, Repr
def Kw.bytes : Kw → List UInt8
 | .let_ => [108, 101, 116]
 | .pair => [112, 97, 105, 114]
 | .fst => [102, 115, 116]
 | .snd => [115, 110, 100]
 | .if_ => [105, 102]
 | .add => [97, 100, 100]
 | .sub => [115, 117, 98]
 | .less => [108, 101, 115, 115]
 | .loop => [108, 111, 111, 112]
 | .new => [110, 101, 119]
def kwOf (l : List UInt8) : Option Kw :=
 if l = Kw.let_.bytes then some .let_ else if l = Kw.pair.bytes then some .pair else if l = Kw.fst.bytes then some .fst else
 if l = Kw.snd.bytes then some .snd else if l = Kw.if_.bytes then some .if_ else if l = Kw.add.bytes then some .add else
 if l = Kw.sub.bytes then some .sub else if l = Kw.less.bytes then some .less else if l = Kw.loop.bytes then some .loop else
 if l = Kw.new.bytes then some .new else none
theorem kwOf_some {l : List UInt8} {k : Kw} (h : kwOf l = some k) : l = k.bytes := by
 unfold kwOf at h
 repeat' (split at h; · simp only [Option.some.injEq] at h; subst h; assumption)
 simp at h
theorem kwOf_bytes (k : Kw) : kwOf k.bytes = some k := by cases k <;> decide
inductive Cl | opn | cls | nam | num | reg | bad | kw (k : Kw)
 deriving DecidableEq, Repr
def Cl.bytes : Cl → List UInt8
 | .opn => [40]
 | .cls => [41]
 | .nam => [78, 65, 77, 69]
 | .num => [78, 85, 77, 66, 69, 82]
 | .reg => [82, 69, 71, 73, 79, 78]
 | .bad => [66, 65, 68]
 | .kw k => k.bytes
def wordCl (l : List UInt8) (n : Nat) : Cl := match kwOf l with
 | some k => .kw k
 | none => if n ≤ 8 then .nam else .bad
def tokenOf (l : List UInt8) : Nat × Cl :=
 if 0 < run 97 122 l then
  (run 97 122 l, wordCl (l.take (run 97 122 l)) (run 97 122 l))
 else if 0 < run 48 57 l then
  (run 48 57 l, if numeralB (l.take (run 48 57 l)) 4 then .num else .bad)
 else match l with
  | [] => (1, .bad)
  | c :: r =>
   if c = 35 then (run 48 57 r + 1, if numeralB (r.take (run 48 57 r)) 3 then .reg else .bad)
   else (1, if c = 40 then .opn else if c = 41 then .cls else .bad)
theorem tokenOf_pos (l : List UInt8) : 0 < (tokenOf l).1 := by
 unfold tokenOf
 split
 ·assumption
 ·split
  ·assumption
  ·split
   ·simp
   ·split <;> simp
theorem tokenOf_le (l : List UInt8) (h : l ≠ []) : (tokenOf l).1 ≤ l.length := by
 unfold tokenOf
 split
 ·exact run_le _ _ _
 ·split
  ·exact run_le _ _ _
  ·split
   ·exact absurd rfl h
   ·rename_i c r _ _
    split
    ·have := run_le 48 57 r; simp; omega
    ·simp
theorem among_kept (s : List UInt8) : amongL s [] [108, 101, 116, 32, 112, 97, 105, 114, 32, 102, 115, 116, 32, 115, 110, 100, 32, 105, 102, 32, 97, 100, 100, 32, 115, 117, 98, 32, 108, 101, 115, 115, 32, 108, 111, 111, 112, 32, 110, 101, 119] = (kwOf s).isSome := by
 have e : amongL s [] [108, 101, 116, 32, 112, 97, 105, 114, 32, 102, 115, 116, 32, 115, 110, 100, 32, 105, 102, 32, 97, 100, 100, 32, 115, 117, 98, 32, 108, 101, 115, 115, 32, 108, 111, 111, 112, 32, 110, 101, 119]
  = ((Kw.let_.bytes == s) || ((Kw.pair.bytes == s) || ((Kw.fst.bytes == s) || ((Kw.snd.bytes == s) || ((Kw.if_.bytes == s) || ((Kw.add.bytes == s) || ((Kw.sub.bytes == s) || ((Kw.less.bytes == s) || ((Kw.loop.bytes == s) || (Kw.new.bytes == s)))))))))) := rfl
 rw [e]
 cases h : kwOf s with
 | some k => have := kwOf_some h; subst this; cases k <;> decide
 | none =>
  have hn : ∀ k : Kw, (k.bytes == s) = false := fun k => by
   rw [beq_eq_false_iff_ne]; intro e; rw [← e, kwOf_bytes] at h; cases h
  simp only [hn]; rfl
structure Tk where
 s : List UInt8
 at_ : Nat
 c : Cl
 deriving Repr
def blankB (c : UInt8) : Bool := c == 32 || c == 10
def toks : Nat → Nat → List UInt8 → List Tk
 | 0, _, _ => []
 | _ + 1, _, [] => []
 | f + 1, p, c :: r =>
  if blankB c then toks f (p + 1) r
  else ⟨(c :: r).take (tokenOf (c :: r)).1, p, (tokenOf (c :: r)).2⟩ :: toks f (p + (tokenOf (c :: r)).1) ((c :: r).drop (tokenOf (c :: r)).1)
theorem toks_fuel : ∀ (f g p : Nat) (l : List UInt8), l.length ≤ f → l.length ≤ g → toks f p l = toks g p l := by
 intro f
 induction f with
 | zero => intro g p l h1 h2; have : l = [] := List.length_eq_zero_iff.1 (by omega); subst this; cases g <;> rfl
 | succ f ih =>
  intro g p l h1 h2
  cases l with
  | nil => cases g <;> rfl
  | cons c r =>
   cases g with
   | zero => simp at h2
   | succ g =>
    simp only [List.length_cons] at h1 h2
    simp only [toks]
    have hp := tokenOf_pos (c :: r)
    split
    ·exact ih g _ r (by omega) (by omega)
    ·rw [ih g _ _ (by simp; omega) (by simp; omega)]
def tokens (l : List UInt8) : List Tk := toks l.length 0 l
theorem toks_blank (f p : Nat) (c : UInt8) (r : List UInt8) (h : blankB c = true) : toks (f + 1) p (c :: r) = toks f (p + 1) r := by simp [toks, h]
theorem toks_tok (f p : Nat) (c : UInt8) (r : List UInt8) (h : blankB c = false) : toks (f + 1) p (c :: r) = ⟨(c :: r).take (tokenOf (c :: r)).1, p, (tokenOf (c :: r)).2⟩ :: toks f (p + (tokenOf (c :: r)).1) ((c :: r).drop (tokenOf (c :: r)).1) := by simp [toks, h]
end Go.Proofs.YtpicaknklgccoaaDoor
namespace Go.Proofs.YtpicaknklgccoaaDoor
open Go.RowKit
theorem drop_cons (s : ByteArray) (k : Nat) (h : k < s.size) : s.data.toList.drop k = s[k] :: s.data.toList.drop (k + 1) := by
 rw [List.drop_eq_getElem_cons (by simpa using h)]; rfl
theorem drop_end (s : ByteArray) (k : Nat) (h : s.size ≤ k) : s.data.toList.drop k = [] := by
 rw [List.drop_eq_nil_iff]; simpa using h
theorem run_yes (s : ByteArray) (k : Nat) (lo hi : Int) (h : k < s.size) (a : lo ≤ (s[k].toNat : Int)) (b : (s[k].toNat : Int) ≤ hi) :
  run lo hi (s.data.toList.drop k) = run lo hi (s.data.toList.drop (k + 1)) + 1 := by
 rw [drop_cons s k h]; simp [run, inB, a, b]
theorem run_no (s : ByteArray) (k : Nat) (lo hi : Int) (h : k < s.size) (a : (s[k].toNat : Int) < lo ∨ hi < (s[k].toNat : Int)) :
  run lo hi (s.data.toList.drop k) = 0 := by
 rw [drop_cons s k h]
 have : inB lo hi s[k] = false := by unfold inB; rcases a with a | a <;> simp <;> omega
 simp [run, this]
theorem ret_int {k : IntKind} {a b : Int} (h : a = b) : Ending.returned (.int k a) = .returned (.int k b) := by rw [h]
set_option maxHeartbeats 400000 in
theorem row_any (s : ByteArray) (a : Nat) (lo hi : Int) (w : World) (hs : s.size ≤ maxLen) (ha : a ≤ s.size) :
  Calls Tryd.prog 69 #[.string s, .int .i64 a, .int .u8 lo, .int .u8 hi] w fun e w' => e = .returned (.int .i64 (run lo hi (s.data.toList.drop a) : Nat)) ∧ w' = w := by
 unfold maxLen at hs
 go_enter Tryd.func69, Tryd.ntmps69
 go_wp2
 go_loop [9] (fun n => ∃ k : Nat, a + k ≤ s.size ∧ n = .int .i64 k ∧ run lo hi (s.data.toList.drop a) = k + run lo hi (s.data.toList.drop (a + k))) (fun n => s.size - (intOf n).toNat)
 case atStart => exact ⟨0, by omega, rfl, by simp⟩
 case round =>
  obtain ⟨k, hk, rfl, hr⟩ := hrel
  have HR : Hid (run lo hi (s.data.toList.drop a) = k + run lo hi (s.data.toList.drop (a + k))) := hr
  clear hr
  by_cases hlt : a + k < s.size
  ·go_wp2
   ·go_round
    case rel => exact ⟨k + 1, by omega, by go_num, by rw [HR.out, run_yes s (a + k) lo hi hlt ‹_› ‹_›]; rw [Nat.add_assoc a k 1]; omega⟩
    case measure => simp [intOf]; omega
   ·go_ret
    exact ⟨ret_int (by rw [HR.out, run_no s (a + k) lo hi hlt (Or.inr ‹_›)]; simp), rfl⟩
   ·go_ret
    exact ⟨ret_int (by rw [HR.out, run_no s (a + k) lo hi hlt (Or.inl ‹_›)]; simp), rfl⟩
  ·go_wp2
   go_ret
   exact ⟨ret_int (by rw [HR.out, drop_end s (a + k) (by omega)]; simp [run]), rfl⟩
theorem nB_of (s : ByteArray) (m : Nat) : numeralB s.data.toList m = (decide (0 < s.size) && decide (s.size ≤ m) && (decide (s.size = 1) || (s.data.toList.head? != some 48))) := by
 unfold numeralB; simp
theorem head_of (s : ByteArray) (h : 0 < s.size) : s.data.toList.head? = some s[0] := by
 have := drop_cons s 0 h
 simp only [List.drop_zero] at this
 rw [this]; rfl
theorem byte_eq (a b : UInt8) : ((a.toNat : Int) == (b.toNat : Int)) = (a == b) := by
 rw [Bool.eq_iff_iff]
 simp only [beq_iff_eq]
 constructor
 ·intro h; apply UInt8.toNat_inj.1; omega
 ·intro h; rw [h]
theorem byte_ne (a b : UInt8) : ((a.toNat : Int) != (b.toNat : Int)) = (a != b) := by
 simp only [bne, byte_eq]
theorem ret_bool {a b : Bool} (h : a = b) : Ending.returned (.bool a) = .returned (.bool b) := by rw [h]
set_option maxHeartbeats 400000 in
theorem numeral_any (s : ByteArray) (m : Nat) (w : World) (hs : s.size ≤ maxLen) (hm : m ≤ 10) :
  Calls Tryd.prog 70 #[.string s, .int .i64 m] w fun e w' => e = .returned (.bool (numeralB s.data.toList m)) ∧ w' = w := by
 unfold maxLen at hs
 go_enter Tryd.func70, Tryd.ntmps70
 go_wp2
 ·go_ret
  refine ⟨ret_bool ?_, rfl⟩
  rw [nB_of]
  have h1 : s.size = 1 := by omega
  simp [h1]; omega
 ·go_ret
  refine ⟨ret_bool ?_, rfl⟩
  have h0 : 0 < s.size := by assumption
  have h2 : s.size ≤ m := by assumption
  have h1 : ¬ s.size = 1 := by omega
  rw [nB_of, head_of s h0]
  have e1 : ((s.size : Int) == 1) = false := by simp; omega
  have e2 : ((s[0].toNat : Int) != 48) = (s[0] != 48) := byte_ne s[0] 48
  have e3 : (some s[0] != some (48 : UInt8)) = (s[0] != 48) := rfl
  simp only [e1, Bool.false_or, e2, e3]
  simp [h0, h1, h2]
 ·go_ret
  refine ⟨ret_bool ?_, rfl⟩
  have h2 : ¬ s.size ≤ m := by assumption
  rw [nB_of]; simp [h2]
 ·go_ret
  refine ⟨ret_bool ?_, rfl⟩
  have h2 : ¬ 0 < s.size := by assumption
  rw [nB_of]; simp; omega
theorem take_snoc (s : ByteArray) (k : Nat) (h : k < s.size) : s.data.toList.take (k + 1) = s.data.toList.take k ++ [s[k]] := by
 rw [List.take_succ_eq_append_getElem (by simpa using h)]; rfl
theorem pow5 (k : Nat) (h : k ≤ 5) : (10 : Int) ^ k ≤ 100000 := by
 match k, h with
 | 0, _ => decide
 | 1, _ => decide
 | 2, _ => decide
 | 3, _ => decide
 | 4, _ => decide
 | 5, _ => decide
set_option maxHeartbeats 400000 in
theorem value_any (s : ByteArray) (w : World) (hs : s.size ≤ 5) :
  Calls Tryd.prog 52 #[.string s] w fun e w' => e = .returned (.int .i64 (valueL s.data.toList)) ∧ w' = w := by
 go_enter Tryd.func52, Tryd.ntmps52
 go_wp2
 go_loop [3, 4] (fun n i => ∃ k : Nat, k ≤ s.size ∧ i = .int .i64 k ∧ n = .int .i64 (valueL (s.data.toList.take k))) (fun _ i => s.size - (intOf i).toNat)
 case atStart => exact ⟨0, by omega, rfl, rfl⟩
 case round =>
  obtain ⟨k, hk, rfl, rfl⟩ := hrel
  have hb := valueL_bd (s.data.toList.take k)
  have hp := pow5 (s.data.toList.take k).length (by simp; omega)
  obtain ⟨m, hm⟩ : ∃ m, m = valueL (s.data.toList.take k) := ⟨_, rfl⟩
  rw [← hm] at hb
  obtain ⟨hb1, hb2⟩ : -3000000 ≤ m ∧ m ≤ 3000000 := by omega
  clear hp hb
  by_cases hlt : k < s.size
  ·have hsn : valueL (s.data.toList.take (k + 1)) = if s[k] = 35 then m else 10 * m + (s[k].toNat : Int) - 48 := by rw [take_snoc s k hlt, valueL_snoc, hm]
   have HS : Hid _ := hsn
   have hcb : s[k].toNat < 256 := s[k].toNat_lt
   have HC : Hid _ := hcb
   clear hsn hcb
   rw [← hm]
   have HM : Hid _ := hm
   clear hm
   go_wp2
   ·go_round
    case rel =>
     refine ⟨k + 1, by omega, by go_num, ?_⟩
     have e : ((s[k].toNat : Int) != 35) = (s[k] != 35) := byte_ne s[k] 35
     have h1 : ((s[k].toNat : Int) != 35) = true := by assumption
     rw [e] at h1
     rw [HS.out, if_neg (by simpa using h1)]
     have := HC.out
     rw [IntWalk.wrap64_in (s[k].toNat : Int) (by omega), IntWalk.wrap64_in (10 * m + (s[k].toNat : Int)) (by omega), IntWalk.wrap64_in _ (by omega)]
    case measure => simp [intOf]; omega
   ·go_round
    case rel =>
     refine ⟨k + 1, by omega, by go_num, ?_⟩
     have e : ((s[k].toNat : Int) != 35) = (s[k] != 35) := byte_ne s[k] 35
     have h1 : ((s[k].toNat : Int) != 35) = false := by assumption
     rw [e] at h1
     rw [HS.out, if_pos (by simpa using h1)]
    case measure => simp [intOf]; omega
  ·go_wp2
   go_ret
   exact ⟨ret_int (by rw [List.take_of_length_le (by simp; omega)]), rfl⟩
theorem ext_snoc (l : ByteArray) (j k : Nat) (hj : j ≤ k) (hk : k < l.size) : (l.extract j (k + 1)).data.toList = (l.extract j k).data.toList ++ [l[k]] := by
 rw [Lib.extract_data, Lib.extract_data, show k + 1 - j = (k - j) + 1 from by omega, List.take_succ_eq_append_getElem (by simp; omega)]
 congr 2
 rw [List.getElem_drop]
 simp only [show j + (k - j) = k from by omega]
 rfl
theorem amongL_blank (l s : ByteArray) (j k : Nat) (hk : k < l.size) (hb : ((l[k].toNat : Int) == 32) = true) (hne : ((l.extract j k).toList == s.toList) = false) :
  amongL s.data.toList (l.extract j k).data.toList (l.data.toList.drop k) = amongL s.data.toList (l.extract (k + 1) (k + 1)).data.toList (l.data.toList.drop (k + 1)) := by
 rw [drop_cons l k hk]
 have e : ((l[k].toNat : Int) == 32) = (l[k] == 32) := byte_eq l[k] 32
 rw [e] at hb
 rw [Lib.toList_data, Lib.toList_data] at hne
 simp only [amongL]
 rw [if_pos (by simpa using hb), hne, Lib.extract_data (a := k + 1)]
 simp
theorem amongL_hit (l s : ByteArray) (j k : Nat) (hk : k < l.size) (hb : ((l[k].toNat : Int) == 32) = true) (hne : ((l.extract j k).toList == s.toList) = true) :
  amongL s.data.toList (l.extract j k).data.toList (l.data.toList.drop k) = true := by
 rw [drop_cons l k hk]
 have e : ((l[k].toNat : Int) == 32) = (l[k] == 32) := byte_eq l[k] 32
 rw [e] at hb
 rw [Lib.toList_data, Lib.toList_data] at hne
 simp only [amongL]
 rw [if_pos (by simpa using hb), hne]; rfl
theorem amongL_on (l s : ByteArray) (j k : Nat) (hj : j ≤ k) (hk : k < l.size) (hb : ((l[k].toNat : Int) == 32) = false) :
  amongL s.data.toList (l.extract j k).data.toList (l.data.toList.drop k) = amongL s.data.toList (l.extract j (k + 1)).data.toList (l.data.toList.drop (k + 1)) := by
 rw [drop_cons l k hk]
 have e : ((l[k].toNat : Int) == 32) = (l[k] == 32) := byte_eq l[k] 32
 rw [e] at hb
 rw [ext_snoc l j k hj hk]
 simp only [amongL]
 rw [if_neg (by simpa using hb)]
theorem amongL_end (l s : ByteArray) (j : Nat) : amongL s.data.toList (l.extract j l.size).data.toList (l.data.toList.drop l.size) = ((l.extract j l.size).toList == s.toList) := by
 rw [drop_end l l.size (Nat.le_refl _), Lib.toList_data, Lib.toList_data]; rfl
set_option maxHeartbeats 400000 in
theorem among_any (l s : ByteArray) (w : World) (hl : l.size ≤ 100) :
  Calls Tryd.prog 51 #[.string l, .string s] w fun e w' => e = .returned (.bool (amongL s.data.toList [] l.data.toList)) ∧ w' = w := by
 go_enter Tryd.func51, Tryd.ntmps51
 go_wp2
 go_loop [5, 6] (fun a i => ∃ k j : Nat, k ≤ l.size + 1 ∧ j ≤ k ∧ i = .int .i64 k ∧ a = .int .i64 j ∧
   amongL s.data.toList [] l.data.toList = if k ≤ l.size then amongL s.data.toList (l.extract j k).data.toList (l.data.toList.drop k) else false) (fun _ i => l.size + 1 - (intOf i).toNat)
 case atStart => exact ⟨0, 0, by omega, by omega, rfl, rfl, by simp⟩
 case round =>
  obtain ⟨k, j, hk, hj, rfl, rfl, hr⟩ := hrel
  have HR : Hid _ := hr
  clear hr
  by_cases hlt : k < l.size
  ·have hkl : (k == l.size) = false := by simp; omega
   by_cases hb : ((l[k].toNat : Int) == 32) = true
   ·go_wp2
    ·go_ret
     refine ⟨ret_bool ?_, rfl⟩
     rw [HR.out, if_pos (by omega), amongL_hit l s j k hlt hb ‹_›]
    ·go_round
     case rel => exact ⟨k + 1, k + 1, by omega, by omega, by go_num, by go_num, by rw [HR.out, if_pos (by omega), if_pos (by omega)]; exact amongL_blank l s j k hlt hb ‹_›⟩
     case measure => simp [intOf]; omega
   ·have hb' : ((l[k].toNat : Int) == 32) = false := by simpa using hb
    clear hb
    go_wp2
    go_round
    case rel => exact ⟨k + 1, j, by omega, by omega, by go_num, by go_num, by rw [HR.out, if_pos (by omega), if_pos (by omega)]; exact amongL_on l s j k hj hlt hb'⟩
    case measure => simp [intOf]; omega
  ·by_cases he : k = l.size
   ·subst he
    have HE := amongL_end l s j
    have HE' : Hid _ := HE
    clear HE
    go_wp2
    ·go_ret
     refine ⟨ret_bool ?_, rfl⟩
     rw [HR.out, if_pos (by omega), HE'.out]; symm; assumption
    ·go_round
     case rel => exact ⟨l.size + 1, l.size + 1, by omega, by omega, by go_num, by go_num, by rw [HR.out, if_pos (by omega), if_neg (by omega), HE'.out]; assumption⟩
     case measure => simp [intOf]
   ·go_wp2
    go_ret
    exact ⟨ret_bool (by rw [HR.out, if_neg (by omega)]), rfl⟩
set_option maxHeartbeats 400000 in
theorem size_any (s : ByteArray) (w : World) (hs : s.size ≤ maxLen) :
  Calls Tryd.prog 64 #[.string s] w fun e w' => e = .returned (.int .i64 (sizeL s.data.toList : Nat)) ∧ w' = w := by
 unfold maxLen at hs
 go_enter Tryd.func64, Tryd.ntmps64
 go_wp2
 go_loop [3, 4] (fun n i => ∃ k : Nat, k ≤ s.size ∧ i = .int .i64 k ∧ n = .int .i64 (sizeL (s.data.toList.take k) : Nat)) (fun _ i => s.size - (intOf i).toNat)
 case atStart => exact ⟨0, by omega, rfl, rfl⟩
 case round =>
  obtain ⟨k, hk, rfl, rfl⟩ := hrel
  have hb := sizeL_le (s.data.toList.take k)
  have hb' : sizeL (s.data.toList.take k) ≤ k := by simp at hb; omega
  clear hb
  by_cases hlt : k < s.size
  ·have hsn : sizeL (s.data.toList.take (k + 1)) = sizeL (s.data.toList.take k) + if s[k] == 60 then 1 else 0 := by rw [take_snoc s k hlt, sizeL_snoc]
   have e : ((s[k].toNat : Int) == 60) = (s[k] == 60) := byte_eq s[k] 60
   have HS : Hid _ := hsn
   have HE : Hid _ := e
   clear hsn e
   go_wp2
   ·go_round
    case rel =>
     refine ⟨k + 1, by omega, by go_num, ?_⟩
     have h1 : ((s[k].toNat : Int) == 60) = true := by assumption
     rw [HE.out] at h1
     rw [HS.out, if_pos h1]; go_num
    case measure => simp [intOf]; omega
   ·go_round
    case rel =>
     refine ⟨k + 1, by omega, by go_num, ?_⟩
     have h1 : ((s[k].toNat : Int) == 60) = false := by assumption
     rw [HE.out] at h1
     rw [HS.out, if_neg (by rw [h1]; simp)]; go_num
    case measure => simp [intOf]; omega
  ·go_wp2
   go_ret
   exact ⟨ret_int (by rw [List.take_of_length_le (by simp; omega)]), rfl⟩
def bs (l : List UInt8) : ByteArray := ⟨l.toArray⟩
theorem bs_toList (l : List UInt8) : (bs l).data.toList = l := rfl
theorem bs_eq {s : ByteArray} {l : List UInt8} (h : s.data.toList = l) : s = bs l := by subst h; cases s; rfl
theorem ext_of (s : ByteArray) (a n : Nat) : (s.extract a (a + n)).data.toList = (s.data.toList.drop a).take n := by
 rw [Lib.extract_data, show a + n - a = n from by omega]
def tokVal (s : ByteArray) (a : Nat) (n : Nat) (c : Cl) : Value := .agg #[.string (s.extract a (a + n)), .int .i64 a, .string (bs c.bytes)]
theorem size_list (s : ByteArray) : s.data.toList.length = s.size := by simp
set_option maxHeartbeats 1000000 in
theorem token_word (s : ByteArray) (a : Nat) (w : World) (hs : s.size ≤ 9000) (ha : a < s.size) (h1 : 0 < run 97 122 (s.data.toList.drop a)) :
  Calls Tryd.prog 50 #[.string s, .int .i64 a] w fun e w' => e = .returned (tokVal s a (tokenOf (s.data.toList.drop a)).1 (tokenOf (s.data.toList.drop a)).2) ∧ Below w.heap.size w w' := by
 have hle := run_le 97 122 (s.data.toList.drop a)
 have hto : tokenOf (s.data.toList.drop a) = (run 97 122 (s.data.toList.drop a), wordCl ((s.data.toList.drop a).take (run 97 122 (s.data.toList.drop a))) (run 97 122 (s.data.toList.drop a))) := by unfold tokenOf; rw [if_pos h1]
 have hrow := row_any s a 97 122
 rw [hto]
 simp only [List.length_drop] at hle
 rw [size_list] at hle
 generalize run 97 122 (s.data.toList.drop a) = n at *
 clear hto
 have ham := among_any (bs [108, 101, 116, 32, 112, 97, 105, 114, 32, 102, 115, 116, 32, 115, 110, 100, 32, 105, 102, 32, 97, 100, 100, 32, 115, 117, 98, 32, 108, 101, 115, 115, 32, 108, 111, 111, 112, 32, 110, 101, 119]) (s.extract a (a + n))
 rw [bs_toList, among_kept, ext_of] at ham
 unfold wordCl
 cases hk : kwOf ((s.data.toList.drop a).take n) with
 | some k =>
  rw [hk] at ham
  have hkb := kwOf_some hk
  have hx : s.extract a (a + n) = bs k.bytes := bs_eq (by rw [ext_of, hkb])
  have HX : Hid _ := hx
  clear hk hx hkb
  go_enter Tryd.func50, Tryd.ntmps50
  go_wp2_with (first
   | (go_at_call_of 69 (Value.int IntKind.u8 97); refine (hrow _ (by unfold maxLen; omega) (by omega)).mono ?_; rintro e w' ⟨rfl, rfl⟩)
   | (go_at_call 51; refine (ham _ (by decide)).mono ?_; rintro e w' ⟨rfl, rfl⟩))
  refine bodyPost_ret (v := .agg #[.string (s.extract a (a + n)), .int .i64 a, .string (s.extract a (a + n))]) (by simp [results, Tryd.results50, go_sem]) rfl ⟨?_, (Below.refl _ _).alloc (Nat.le_refl _) _⟩
  unfold tokVal
  simp only [Cl.bytes]
  rw [HX.out]
 | none =>
  rw [hk] at ham
  clear hk
  by_cases h8 : n ≤ 8
  ·go_enter Tryd.func50, Tryd.ntmps50
   go_wp2_with (first
    | (go_at_call_of 69 (Value.int IntKind.u8 97); refine (hrow _ (by unfold maxLen; omega) (by omega)).mono ?_; rintro e w' ⟨rfl, rfl⟩)
    | (go_at_call 51; refine (ham _ (by decide)).mono ?_; rintro e w' ⟨rfl, rfl⟩))
   refine bodyPost_ret (v := .agg #[.string (s.extract a (a + n)), .int .i64 a, .string (bs Cl.nam.bytes)]) (by simp [results, Tryd.results50, go_sem, bs, Cl.bytes]) rfl ⟨?_, (Below.refl _ _).alloc (Nat.le_refl _) _⟩
   first | rfl | simp only [tokVal, if_pos h8]
  ·go_enter Tryd.func50, Tryd.ntmps50
   go_wp2_with (first
    | (go_at_call_of 69 (Value.int IntKind.u8 97); refine (hrow _ (by unfold maxLen; omega) (by omega)).mono ?_; rintro e w' ⟨rfl, rfl⟩)
    | (go_at_call 51; refine (ham _ (by decide)).mono ?_; rintro e w' ⟨rfl, rfl⟩))
   refine bodyPost_ret (v := .agg #[.string (s.extract a (a + n)), .int .i64 a, .string (bs Cl.bad.bytes)]) (by simp [results, Tryd.results50, go_sem, bs, Cl.bytes]) rfl ⟨?_, (Below.refl _ _).alloc (Nat.le_refl _) _⟩
   first | rfl | simp only [tokVal, if_neg h8]
set_option maxHeartbeats 1000000 in
theorem token_digits (s : ByteArray) (a : Nat) (w : World) (hs : s.size ≤ 9000) (ha : a < s.size) (h1 : run 97 122 (s.data.toList.drop a) = 0) (h2 : 0 < run 48 57 (s.data.toList.drop a)) :
  Calls Tryd.prog 50 #[.string s, .int .i64 a] w fun e w' => e = .returned (tokVal s a (tokenOf (s.data.toList.drop a)).1 (tokenOf (s.data.toList.drop a)).2) ∧ Below w.heap.size w w' := by
 have hle := run_le 48 57 (s.data.toList.drop a)
 have hto : tokenOf (s.data.toList.drop a) = (run 48 57 (s.data.toList.drop a), if numeralB ((s.data.toList.drop a).take (run 48 57 (s.data.toList.drop a))) 4 then Cl.num else Cl.bad) := by
  unfold tokenOf; rw [if_neg (by omega), if_pos h2]
 have hrow := row_any s a 97 122
 have hrow2 := row_any s a 48 57
 rw [hto]
 rw [h1] at hrow
 simp only [List.length_drop] at hle
 rw [size_list] at hle
 generalize run 48 57 (s.data.toList.drop a) = n at *
 clear hto h1
 have hnu := numeral_any (s.extract a (a + n)) 4
 rw [ext_of] at hnu
 generalize numeralB ((s.data.toList.drop a).take n) 4 = q at *
 cases q
 all_goals
  go_enter Tryd.func50, Tryd.ntmps50
  go_wp2_with (first
   | (go_at_call_of 69 (Value.int IntKind.u8 97); refine (hrow _ (by unfold maxLen; omega) (by omega)).mono ?_; rintro e w' ⟨rfl, rfl⟩)
   | (go_at_call_of 69 (Value.int IntKind.u8 48); refine (hrow2 _ (by unfold maxLen; omega) (by omega)).mono ?_; rintro e w' ⟨rfl, rfl⟩)
   | (go_at_call 70; refine (hnu _ (by unfold maxLen; simp; omega) (by omega)).mono ?_; rintro e w' ⟨rfl, rfl⟩))
 ·exact bodyPost_ret (v := .agg #[.string (s.extract a (a + n)), .int .i64 a, .string (bs Cl.bad.bytes)]) (by simp [results, Tryd.results50, go_sem, bs, Cl.bytes]) rfl ⟨rfl, (Below.refl _ _).alloc (Nat.le_refl _) _⟩
 ·exact bodyPost_ret (v := .agg #[.string (s.extract a (a + n)), .int .i64 a, .string (bs Cl.num.bytes)]) (by simp [results, Tryd.results50, go_sem, bs, Cl.bytes]) rfl ⟨rfl, (Below.refl _ _).alloc (Nat.le_refl _) _⟩
set_option maxHeartbeats 1000000 in
theorem token_region (s : ByteArray) (a : Nat) (w : World) (hs : s.size ≤ 9000) (ha : a < s.size) (h1 : run 97 122 (s.data.toList.drop a) = 0) (h2 : run 48 57 (s.data.toList.drop a) = 0) (h3 : s[a] = 35) :
  Calls Tryd.prog 50 #[.string s, .int .i64 a] w fun e w' => e = .returned (tokVal s a (tokenOf (s.data.toList.drop a)).1 (tokenOf (s.data.toList.drop a)).2) ∧ Below w.heap.size w w' := by
 have hle := run_le 48 57 (s.data.toList.drop (a + 1))
 have hto : tokenOf (s.data.toList.drop a) = (run 48 57 (s.data.toList.drop (a + 1)) + 1, if numeralB ((s.data.toList.drop (a + 1)).take (run 48 57 (s.data.toList.drop (a + 1)))) 3 then Cl.reg else Cl.bad) := by
  unfold tokenOf; rw [if_neg (by omega), if_neg (by omega), drop_cons s a ha]; simp only [h3]; rfl
 have hrow := row_any s a 97 122
 have hrow2 := row_any s a 48 57
 have hrow3 := row_any s (a + 1) 48 57
 rw [hto]
 rw [h1] at hrow
 rw [h2] at hrow2
 have h3' : ((s[a].toNat : Int) == 35) = true := by rw [h3]; rfl
 simp only [List.length_drop] at hle
 rw [size_list] at hle
 generalize run 48 57 (s.data.toList.drop (a + 1)) = n at *
 clear hto h1 h2 h3
 have hnu := numeral_any (s.extract (a + 1) (a + 1 + n)) 3
 rw [ext_of] at hnu
 generalize numeralB ((s.data.toList.drop (a + 1)).take n) 3 = q at *
 have e1 : ((a + 1 : Nat) : Int) = (a : Int) + 1 := by omega
 rw [e1] at hrow3
 have e2 : a + (n + 1) = a + 1 + n := by omega
 unfold tokVal
 rw [e2]
 cases q
 all_goals
  go_enter Tryd.func50, Tryd.ntmps50
  go_wp2_with (first
   | (go_at_call_of 69 (Value.int IntKind.u8 97); refine (hrow _ (by unfold maxLen; omega) (by omega)).mono ?_; rintro e w' ⟨rfl, rfl⟩)
   | (go_at_call_of 69 (Value.int IntKind.i64 (a : Int)); refine (hrow2 _ (by unfold maxLen; omega) (by omega)).mono ?_; rintro e w' ⟨rfl, rfl⟩)
   | (go_at_call_of 69 (Value.int IntKind.u8 48); refine (hrow3 _ (by unfold maxLen; omega) (by omega)).mono ?_; rintro e w' ⟨rfl, rfl⟩)
   | (go_at_call 70; refine (hnu _ (by unfold maxLen; simp; omega) (by omega)).mono ?_; rintro e w' ⟨rfl, rfl⟩))
 ·exact bodyPost_ret (v := .agg #[.string (s.extract a (a + 1 + n)), .int .i64 a, .string (bs Cl.bad.bytes)]) (by simp [results, Tryd.results50, go_sem, bs, Cl.bytes]) rfl ⟨rfl, (Below.refl _ _).alloc (Nat.le_refl _) _⟩
 ·exact bodyPost_ret (v := .agg #[.string (s.extract a (a + 1 + n)), .int .i64 a, .string (bs Cl.reg.bytes)]) (by simp [results, Tryd.results50, go_sem, bs, Cl.bytes]) rfl ⟨rfl, (Below.refl _ _).alloc (Nat.le_refl _) _⟩
theorem ext_one (s : ByteArray) (a : Nat) (ha : a < s.size) : (s.extract a (a + 1)).toList = [s[a]] := by
 rw [Lib.toList_data, ext_of, drop_cons s a ha]; rfl
set_option maxHeartbeats 1000000 in
theorem token_else (s : ByteArray) (a : Nat) (w : World) (hs : s.size ≤ 9000) (ha : a < s.size) (h1 : run 97 122 (s.data.toList.drop a) = 0) (h2 : run 48 57 (s.data.toList.drop a) = 0) (h3 : ¬ s[a] = 35) :
  Calls Tryd.prog 50 #[.string s, .int .i64 a] w fun e w' => e = .returned (tokVal s a (tokenOf (s.data.toList.drop a)).1 (tokenOf (s.data.toList.drop a)).2) ∧ Below w.heap.size w w' := by
 have hto : tokenOf (s.data.toList.drop a) = (1, if s[a] = 40 then Cl.opn else if s[a] = 41 then Cl.cls else Cl.bad) := by
  unfold tokenOf; rw [if_neg (by omega), if_neg (by omega), drop_cons s a ha]; simp only [if_neg h3]
 have hrow := row_any s a 97 122
 have hrow2 := row_any s a 48 57
 rw [hto]
 rw [h1] at hrow
 rw [h2] at hrow2
 have h3' : ((s[a].toNat : Int) == 35) = false := by have : ((s[a].toNat : Int) == 35) = (s[a] == 35) := byte_eq s[a] 35; rw [this]; simpa using h3
 have hx := ext_one s a ha
 have hx' : (s.extract a (a + 1)).data.toList = [s[a]] := by rw [← Lib.toList_data, hx]
 have HX : Hid _ := hx'
 unfold tokVal
 clear hto h1 h2 h3 hx'
 by_cases c1 : s[a] = 40
 ·have t1 : ((s.extract a (a + 1)).toList == [40]) = true := by rw [hx, c1]; rfl
  have H1 : Hid _ := c1
  clear hx c1
  go_enter Tryd.func50, Tryd.ntmps50
  go_wp2_with (first
   | (go_at_call_of 69 (Value.int IntKind.u8 97); refine (hrow _ (by unfold maxLen; omega) (by omega)).mono ?_; rintro e w' ⟨rfl, rfl⟩)
   | (go_at_call_of 69 (Value.int IntKind.u8 48); refine (hrow2 _ (by unfold maxLen; omega) (by omega)).mono ?_; rintro e w' ⟨rfl, rfl⟩))
  refine bodyPost_ret (v := .agg #[.string (s.extract a (a + 1)), .int .i64 a, .string (s.extract a (a + 1))]) (by simp [results, Tryd.results50, go_sem]) rfl ⟨?_, (Below.refl _ _).alloc (Nat.le_refl _) _⟩
  try rw [if_pos H1.out]
  have : s.extract a (a + 1) = bs Cl.opn.bytes := bs_eq (by rw [HX.out, H1.out]; rfl)
  rw [this]
 ·by_cases c2 : s[a] = 41
  ·have t1 : ((s.extract a (a + 1)).toList == [40]) = false := by rw [hx, c2]; rfl
   have t2 : ((s.extract a (a + 1)).toList == [41]) = true := by rw [hx, c2]; rfl
   have H1 : Hid _ := c1
   have H2 : Hid _ := c2
   clear hx c1 c2
   go_enter Tryd.func50, Tryd.ntmps50
   go_wp2_with (first
    | (go_at_call_of 69 (Value.int IntKind.u8 97); refine (hrow _ (by unfold maxLen; omega) (by omega)).mono ?_; rintro e w' ⟨rfl, rfl⟩)
    | (go_at_call_of 69 (Value.int IntKind.u8 48); refine (hrow2 _ (by unfold maxLen; omega) (by omega)).mono ?_; rintro e w' ⟨rfl, rfl⟩))
   refine bodyPost_ret (v := .agg #[.string (s.extract a (a + 1)), .int .i64 a, .string (s.extract a (a + 1))]) (by simp [results, Tryd.results50, go_sem]) rfl ⟨?_, (Below.refl _ _).alloc (Nat.le_refl _) _⟩
   try rw [if_neg H1.out, if_pos H2.out]
   have : s.extract a (a + 1) = bs Cl.cls.bytes := bs_eq (by rw [HX.out, H2.out]; rfl)
   rw [this]
  ·have t1 : ((s.extract a (a + 1)).toList == [40]) = false := by rw [hx]; simpa using c1
   have t2 : ((s.extract a (a + 1)).toList == [41]) = false := by rw [hx]; simpa using c2
   have H1 : Hid _ := c1
   have H2 : Hid _ := c2
   clear hx c1 c2
   go_enter Tryd.func50, Tryd.ntmps50
   go_wp2_with (first
    | (go_at_call_of 69 (Value.int IntKind.u8 97); refine (hrow _ (by unfold maxLen; omega) (by omega)).mono ?_; rintro e w' ⟨rfl, rfl⟩)
    | (go_at_call_of 69 (Value.int IntKind.u8 48); refine (hrow2 _ (by unfold maxLen; omega) (by omega)).mono ?_; rintro e w' ⟨rfl, rfl⟩))
   refine bodyPost_ret (v := .agg #[.string (s.extract a (a + 1)), .int .i64 a, .string (bs Cl.bad.bytes)]) (by simp [results, Tryd.results50, go_sem, bs, Cl.bytes]) rfl ⟨?_, (Below.refl _ _).alloc (Nat.le_refl _) _⟩
   first | rfl | rw [if_neg H1.out, if_neg H2.out]
theorem token_any (s : ByteArray) (a : Nat) (w : World) (hs : s.size ≤ 9000) (ha : a < s.size) :
  Calls Tryd.prog 50 #[.string s, .int .i64 a] w fun e w' => e = .returned (tokVal s a (tokenOf (s.data.toList.drop a)).1 (tokenOf (s.data.toList.drop a)).2) ∧ Below w.heap.size w w' := by
 by_cases h1 : 0 < run 97 122 (s.data.toList.drop a)
 ·exact token_word s a w hs ha h1
 ·by_cases h2 : 0 < run 48 57 (s.data.toList.drop a)
  ·exact token_digits s a w hs ha (by omega) h2
  ·by_cases h3 : s[a] = 35
   ·exact token_region s a w hs ha (by omega) (by omega) h3
   ·exact token_else s a w hs ha (by omega) (by omega) h3
def tkCells (t : Tk) : List Value := [.string (bs t.s), .int .i64 t.at_, .string (bs t.c.bytes)]
theorem Tryd.infoTok : (Tryd.prog.info? 66).map (fun i => (i.zero, i.size, i.bytes)) = some (some (.agg #[.string ⟨#[]⟩, .int .i64 0, .string ⟨#[]⟩]), 3, 40) := by kernel_rfl
theorem Tryd.undToks : Tryd.prog.underlying 63 = some (.slice 66) := by kernel_rfl
theorem toks_step_blank (s : ByteArray) (k : Nat) (hk : k < s.size) (h : blankB s[k] = true) : toks (s.size - k) k (s.data.toList.drop k) = toks (s.size - (k + 1)) (k + 1) (s.data.toList.drop (k + 1)) := by
 rw [drop_cons s k hk, show s.size - k = (s.size - (k + 1)) + 1 from by omega, toks_blank _ _ _ _ h]
def tkAt (s : ByteArray) (k : Nat) : Tk := ⟨(s.data.toList.drop k).take (tokenOf (s.data.toList.drop k)).1, k, (tokenOf (s.data.toList.drop k)).2⟩
theorem toks_step_tok (s : ByteArray) (k : Nat) (hk : k < s.size) (h : blankB s[k] = false) :
  toks (s.size - k) k (s.data.toList.drop k) = tkAt s k :: toks (s.size - (k + (tokenOf (s.data.toList.drop k)).1)) (k + (tokenOf (s.data.toList.drop k)).1) (s.data.toList.drop (k + (tokenOf (s.data.toList.drop k)).1)) := by
 have hp := tokenOf_pos (s.data.toList.drop k)
 have e : toks (s.size - k) k (s.data.toList.drop k) = tkAt s k :: toks (s.size - (k + 1)) (k + (tokenOf (s.data.toList.drop k)).1) ((s.data.toList.drop k).drop (tokenOf (s.data.toList.drop k)).1) := by
  unfold tkAt
  rw [drop_cons s k hk]
  conv => lhs; rw [show s.size - k = (s.size - (k + 1)) + 1 from by omega]
  rw [toks_tok _ _ _ _ h]
 rw [e, List.drop_drop]
 congr 1
 apply toks_fuel
 ·simp; omega
 ·simp
theorem tokVal_cells (s : ByteArray) (k : Nat) : tokVal s k (tokenOf (s.data.toList.drop k)).1 (tokenOf (s.data.toList.drop k)).2 = .agg #[.string (bs (tkAt s k).s), .int .i64 k, .string (bs (tkAt s k).c.bytes)] := by
 unfold tokVal
 rw [bs_eq (ext_of s k (tokenOf (s.data.toList.drop k)).1)]
 rfl
theorem grown_of_below {w w' : World} (h : Below w.heap.size w w') (row : Option Nat) : w.grownBy w' row := ⟨h.os, h.tape, h.output, h.size, fun k hk _ => h.block k hk⟩
theorem owns_below {w w' : World} {base : Nat} {e : TypeId} {size : Nat} {v : Value} {n : Nat} {xs : List Value} (h : w.ownsRow base e size v n xs) (hb : Below w.heap.size w w') : w'.ownsRow base e size v n xs := by
 refine h.kept (grown_of_below hb none) ?_
 cases v.ownBlock <;> simp
theorem owns_ne {w : World} {base : Nat} {e : TypeId} {size : Nat} {v : Value} {n : Nat} {xs : List Value} (h : w.ownsRow base e size v n xs) {b : Nat} (hb : w.heap.size ≤ b) : some b ≠ v.ownBlock := by
 intro e; have := h.lt b e.symm; omega
theorem bs_size (l : List UInt8) : (bs l).size = l.length := by show l.toArray.size = l.length; simp
theorem tkAt_len (s : ByteArray) (k : Nat) (hk : k < s.size) : (tkAt s k).s.length = (tokenOf (s.data.toList.drop k)).1 := by
 have := tokenOf_le (s.data.toList.drop k) (by rw [drop_cons s k hk]; simp)
 unfold tkAt
 simp only [List.length_take]; omega
set_option maxRecDepth 100000 in
set_option maxHeartbeats 1000000 in
theorem Tokens_any (s : ByteArray) (w : World) (hs : s.size ≤ 9000) :
  Calls Tryd.prog 31 #[.string s] w fun e w' => ∃ v, e = .returned v ∧ w'.ownsRow w.heap.size 66 3 v (tokens s.data.toList).length ((tokens s.data.toList).flatMap tkCells) ∧ Below w.heap.size w w' := by
 obtain ⟨i0, hi, hz0, hz1, hz2⟩ := info_parts Tryd.infoTok
 have HI : Hid _ := hi
 have HZ0 : Hid _ := hz0
 have HZ1 : Hid _ := hz1
 have HZ2 : Hid _ := hz2
 clear hi hz0 hz1 hz2
 go_enter Tryd.func31, Tryd.ntmps31
 go_wp2
 go_loopw [3, 4] (fun v i wr => ∃ (k : Nat) (pre : List Tk), k ≤ s.size ∧ i = .int .i64 k ∧ wr.ownsRow w.heap.size 66 3 v pre.length (pre.flatMap tkCells) ∧ Below w.heap.size w wr ∧ pre.length ≤ k ∧
   tokens s.data.toList = pre ++ toks (s.size - k) k (s.data.toList.drop k)) (fun _ i _ => s.size - (intOf i).toNat)
 case atStart => exact ⟨0, [], by omega, rfl, World.ownsRow_nil _ _ _ _, Below.refl _ _, by simp, by simp [tokens]⟩
 case round =>
  obtain ⟨k, pre, hk, rfl, hown, hbel, hpk, hall⟩ := hrel
  have HA : Hid _ := hall
  have HO : Hid (wr.ownsRow w.heap.size 66 3 _ pre.length (pre.flatMap tkCells)) := hown
  have hsz := hbel.size
  clear hall hown
  by_cases hlt : k < s.size
  ·by_cases hb : blankB s[k] = true
   ·have HS : Hid _ := toks_step_blank s k hlt hb
    have hb' : ((s[k].toNat : Int) == 32) = true ∨ ((s[k].toNat : Int) == 32) = false ∧ ((s[k].toNat : Int) == 10) = true := by
     have e1 : ((s[k].toNat : Int) == 32) = (s[k] == 32) := byte_eq s[k] 32
     have e2 : ((s[k].toNat : Int) == 10) = (s[k] == 10) := byte_eq s[k] 10
     rw [e1, e2]; unfold blankB at hb; cases h : s[k] == 32 <;> simp_all
    clear hb
    rcases hb' with hb | ⟨hb1, hb2⟩
    all_goals
     go_wp2
     go_roundw
     case rel => exact ⟨k + 1, pre, by omega, by go_num, HO.out, hbel, by omega, by rw [HA.out, HS.out]⟩
     case measure => simp [intOf]; omega
   ·have hb0 : blankB s[k] = false := by simpa using hb
    have HS : Hid _ := toks_step_tok s k hlt hb0
    have hb1 : ((s[k].toNat : Int) == 32) = false := by
     have e1 : ((s[k].toNat : Int) == 32) = (s[k] == 32) := byte_eq s[k] 32
     rw [e1]; unfold blankB at hb0; simp_all
    have hb2 : ((s[k].toNat : Int) == 10) = false := by
     have e1 : ((s[k].toNat : Int) == 10) = (s[k] == 10) := byte_eq s[k] 10
     rw [e1]; unfold blankB at hb0; simp_all
    have htk := token_any s k
    rw [tokVal_cells] at htk
    have hlen := tkAt_len s k hlt
    have hpos := tokenOf_pos (s.data.toList.drop k)
    have hle := tokenOf_le (s.data.toList.drop k) (by rw [drop_cons s k hlt]; simp)
    rw [List.length_drop, size_list] at hle
    obtain ⟨t, ht⟩ : ∃ t, t = tkAt s k := ⟨_, rfl⟩
    rw [← ht] at htk hlen
    have HT : Hid _ := ht
    have htat : t.at_ = k := by rw [ht]; rfl
    have HTA : Hid _ := htat
    obtain ⟨n, hn⟩ : ∃ n, n = (tokenOf (s.data.toList.drop k)).1 := ⟨_, rfl⟩
    rw [← hn] at hlen hpos hle
    have HN : Hid _ := hn
    have HLEN : Hid _ := hlen
    have hbz : (bs t.s).size = n := by rw [bs_size, hlen]
    clear hb hb0 ht hn hlen htat
    go_wp2_with (first
     | (go_at_call 50; refine (htk _ hs hlt).mono ?_; rintro e w1 ⟨rfl, hb1⟩)
     | (at_builtin; go_must (refine wpList_append_own _ rfl (.tmp 25) (.tmp 27) 63 rfl w.heap.size 66 i0 _ 3 40 Tryd.undToks HI.out HZ0.out HZ1.out HZ2.out rfl (by decide) _ pre.length (pre.flatMap tkCells) rfl ?own ⟨w1.heap.size + 1, 0, none⟩ 1 1 (tkCells t) rfl rfl ?c1 ?c2 ?c3 ?c4 ?c5 ?_)))
    case own => exact ((owns_below HO.out hb1).alloc _).alloc _
    case c1 =>
     intro j u hj
     match j, hj with
     | 0, hj => simp [tkCells] at hj; subst hj; simp [Addr.add]
     | 1, hj => simp [tkCells, HTA.out] at hj; subst hj; simp [Addr.add]
     | 2, hj => simp [tkCells] at hj; subst hj; simp [Addr.add]
     | j + 3, hj => simp [tkCells] at hj
    case c2 => intro u hu; simp [tkCells] at hu; rcases hu with rfl | rfl | rfl <;> rfl
    case c3 => unfold maxLen; omega
    case c4 => omega
    case c5 => have := hb1.size; simp; omega
    ·intro v' w2 hown' hgrow _
     have hsz1 := hb1.size
     have hbel2 : Below w.heap.size w w2 := by
      refine (((hbel.trans (hb1.mono hsz)).alloc (by omega) _).alloc (by simp; omega) _).grown hgrow (by simp; omega) ?_
      intro b hb
      exact (World.ownsRow.lt HO.out b hb).1
     have hcell : w2.cell? ⟨w1.heap.size, 0, none⟩ = some (.string (bs t.s)) :=
      hgrow.cell (by simp) (owns_ne HO.out hsz1)
     have HO2 : Hid (w2.ownsRow w.heap.size 66 3 v' (pre.length + 1) (pre.flatMap tkCells ++ tkCells t)) := hown'
     have HB2 : Hid _ := hbel2
     clear hown' hgrow hbel2 hbel hb1
     go_wp2
     go_roundw
     case rel =>
      refine ⟨k + n, pre ++ [t], by omega, by first | go_num | (rw [hbz]; go_num), ?_, HB2.out, by simp; omega, ?_⟩
      ·have e1 : (pre ++ [t]).length = pre.length + 1 := by simp
       have e2 : (pre ++ [t]).flatMap tkCells = pre.flatMap tkCells ++ tkCells t := by simp
       rw [e1, e2]; exact HO2.out
      ·rw [HA.out, HS.out]; rw [HN.out, HT.out]; simp
     case measure => simp [intOf]; omega
  ·go_wp2
   go_ret
   exact ⟨_, rfl, by rw [HA.out, drop_end s k (by omega)]; have : toks (s.size - k) k [] = [] := by cases s.size - k <;> rfl
                     rw [this, List.append_nil]; exact HO.out, hbel⟩
end Go.Proofs.YtpicaknklgccoaaDoor
namespace Go.Proofs.YtpicaknklgccoaaDoor
inductive Wt | e | word | close | name | region
 deriving DecidableEq, Repr
def Wt.bytes : Wt → List UInt8
 | .e => [101]
 | .word => [119, 111, 114, 100]
 | .close => [41]
 | .name => [78, 65, 77, 69]
 | .region => [82, 69, 71, 73, 79, 78]
def wantsK (k : Kw) (placed : Bool) : List Wt :=
 match k, placed with
 | .let_, _ => [.name, .e, .e, .close]
 | .loop, _ => [.e, .name, .e, .e, .close]
 | .pair, true => [.region, .e, .e, .close]
 | .new, true => [.region, .e, .close]
 | .pair, false => [.e, .e, .close]
 | .add, _ => [.e, .e, .close]
 | .sub, _ => [.e, .e, .close]
 | .less, _ => [.e, .e, .close]
 | .fst, _ => [.e, .close]
 | .snd, _ => [.e, .close]
 | .if_, _ => [.e, .e, .e, .close]
 | .new, false => []
def wantsC (c : Cl) (placed : Bool) : List Wt := match c with
 | .kw k => wantsK k placed
 | _ => []
def formRun (placed : Bool) (len : Nat) : List Tk → List Wt → Option Nat
 | [], [] => none
 | [], _ :: _ => some len
 | t :: _, [] => some t.at_
 | t :: ts, .e :: p => match t.c with
  | .opn => formRun placed len ts (.word :: p)
  | .num => formRun placed len ts p
  | .nam => formRun placed len ts p
  | _ => some t.at_
 | t :: ts, .word :: p => if wantsC t.c placed = [] then some t.at_ else formRun placed len ts (wantsC t.c placed ++ p)
 | t :: ts, .close :: p => if t.c = .cls then formRun placed len ts p else some t.at_
 | t :: ts, .name :: p => if t.c = .nam then formRun placed len ts p else some t.at_
 | t :: ts, .region :: p => if t.c = .reg then formRun placed len ts p else some t.at_
def formOf (placed : Bool) (l : List UInt8) : Option Nat := formRun placed l.length (tokens l) [.e]
theorem wantsC_len (c : Cl) (placed : Bool) : (wantsC c placed).length ≤ 5 := by
 cases c with
 | kw k => cases k <;> cases placed <;> decide
 | _ => simp [wantsC]
theorem toks_len : ∀ (f p : Nat) (l : List UInt8), (toks f p l).length ≤ l.length := by
 intro f
 induction f with
 | zero => intro p l; simp [toks]
 | succ f ih =>
  intro p l
  cases l with
  | nil => simp [toks]
  | cons c r =>
   simp only [toks]
   split
   ·have := ih (p + 1) r; simp; omega
   ·have hp := tokenOf_pos (c :: r)
    have := ih (p + (tokenOf (c :: r)).1) ((c :: r).drop (tokenOf (c :: r)).1)
    simp only [List.length_drop, List.length_cons] at this
    simp only [List.length_cons]; omega
end Go.Proofs.YtpicaknklgccoaaDoor
namespace Go.Proofs.YtpicaknklgccoaaDoor
open Go.RowKit
def wtVal (x : Wt) : Value := .string (bs x.bytes)
theorem Tryd.undStrs : Tryd.prog.underlying 53 = some (.slice 9) := by kernel_rfl
theorem Tryd.infoStr : (Tryd.prog.info? 9).map (fun i => (i.zero, i.size, i.bytes)) = some (some (.string ⟨#[]⟩), 1, 16) := by kernel_rfl
theorem bs_beq (l m : List UInt8) : ((bs l).toList == m) = (l == m) := by rw [Lib.toList_data]; rfl
set_option maxRecDepth 100000 in
set_option maxHeartbeats 4000000 in
theorem wants_any (c : Cl) (placed : Bool) (w : World) :
  Calls Tryd.prog 32 #[.string (bs c.bytes), .bool placed] w fun e w' =>
   (wantsC c placed = [] ∧ e = .returned (.slice none 0 0) ∧ w' = w) ∨
   (wantsC c placed ≠ [] ∧ e = .returned (.slice (some ⟨w.heap.size, 0, none⟩) (wantsC c placed).length (wantsC c placed).length) ∧ w' = w.alloc (.cells (((wantsC c placed).map wtVal).reverse).toArray 9)) := by
 have ham1 := among_any ⟨#[112, 97, 105, 114, 32, 97, 100, 100, 32, 115, 117, 98, 32, 108, 101, 115, 115]⟩ (bs c.bytes)
 have ham2 := among_any ⟨#[102, 115, 116, 32, 115, 110, 100]⟩ (bs c.bytes)
 have hse := bs_beq
 rcases c with _ | _ | _ | _ | _ | _ | k
 case kw =>
  cases k <;> cases placed
  all_goals
   simp only [Cl.bytes, Kw.bytes] at ham1 ham2 ⊢
   go_enter Tryd.func32, Tryd.ntmps32
   go_wp2_with (first
    | (go_at_call_of 51 (Value.string { data := #[112, 97, 105, 114, 32, 97, 100, 100, 32, 115, 117, 98, 32, 108, 101, 115, 115] }); refine (ham1 _ (by decide)).mono ?_; rintro e w' ⟨rfl, rfl⟩)
    | (go_at_call_of 51 (Value.string { data := #[102, 115, 116, 32, 115, 110, 100] }); refine (ham2 _ (by decide)).mono ?_; rintro e w' ⟨rfl, rfl⟩))
   go_ret
   first | exact Or.inr ⟨by decide, rfl, rfl⟩ | exact Or.inl ⟨rfl, rfl, rfl⟩
 all_goals
  cases placed
  all_goals
   simp only [Cl.bytes] at ham1 ham2 ⊢
   go_enter Tryd.func32, Tryd.ntmps32
   go_wp2_with (first
    | (go_at_call_of 51 (Value.string { data := #[112, 97, 105, 114, 32, 97, 100, 100, 32, 115, 117, 98, 32, 108, 101, 115, 115] }); refine (ham1 _ (by decide)).mono ?_; rintro e w' ⟨rfl, rfl⟩)
    | (go_at_call_of 51 (Value.string { data := #[102, 115, 116, 32, 115, 110, 100] }); refine (ham2 _ (by decide)).mono ?_; rintro e w' ⟨rfl, rfl⟩))
   go_ret
   exact Or.inl ⟨rfl, rfl, rfl⟩
end Go.Proofs.YtpicaknklgccoaaDoor
