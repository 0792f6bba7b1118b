import Derived.Test.YtglkpkmdoohdcaaDoorProg
import Derived.Test.YtglkpkmdoohdcaaDoorMa
import Derived.WalkKit
import Derived.WalkSpells
import Derived.WalkLawsBesides
import Derived.Lib.Strings
import Derived.Lib.IndexBytes
namespace Go.Proofs.YtglkpkmdoohdcaaDoor
open Go.RowKit

theorem drop_cons (s : ByteArray) (k : Nat) (h : k < s.size) : s.data.toList.drop k = s[k] :: s.data.toList.drop (k + 1) := by
  rw [List.drop_eq_getElem_cons (by simpa using h)]; rfl

theorem drop_end (s : ByteArray) (k : Nat) (h : s.size ≤ k) : s.data.toList.drop k = [] := by
  rw [List.drop_eq_nil_iff]; simpa using h

theorem run_yes (s : ByteArray) (k : Nat) (lo hi : Int) (h : k < s.size) (a : lo ≤ (s[k].toNat : Int)) (b : (s[k].toNat : Int) ≤ hi) :
    run lo hi (s.data.toList.drop k) = run lo hi (s.data.toList.drop (k + 1)) + 1 := by
  rw [drop_cons s k h]; simp [run, inB, a, b]

theorem run_no (s : ByteArray) (k : Nat) (lo hi : Int) (h : k < s.size) (a : (s[k].toNat : Int) < lo ∨ hi < (s[k].toNat : Int)) :
    run lo hi (s.data.toList.drop k) = 0 := by
  rw [drop_cons s k h]
  have : inB lo hi s[k] = false := by unfold inB; rcases a with a | a <;> simp <;> omega
  simp [run, this]

theorem ret_int {k : IntKind} {a b : Int} (h : a = b) : Ending.returned (.int k a) = .returned (.int k b) := by rw [h]

set_option maxHeartbeats 400000 in
theorem row_any (s : ByteArray) (a : Nat) (lo hi : Int) (w : World) (hs : s.size ≤ maxLen) (ha : a ≤ s.size) :
    Calls Tryd.prog 88 #[.string s, .int .i64 a, .int .u8 lo, .int .u8 hi] w fun e w' => e = .returned (.int .i64 (run lo hi (s.data.toList.drop a) : Nat)) ∧ w' = w := by
  unfold maxLen at hs
  go_enter Tryd.func88, Tryd.ntmps88
  go_wp2
  go_loop [9] (fun n => ∃ k : Nat, a + k ≤ s.size ∧ n = .int .i64 k ∧ run lo hi (s.data.toList.drop a) = k + run lo hi (s.data.toList.drop (a + k))) (fun n => s.size - (intOf n).toNat)
  case atStart => exact ⟨0, by omega, rfl, by simp⟩
  case round =>
    obtain ⟨k, hk, rfl, hr⟩ := hrel
    have HR : Hid (run lo hi (s.data.toList.drop a) = k + run lo hi (s.data.toList.drop (a + k))) := hr
    clear hr
    by_cases hlt : a + k < s.size
    · go_wp2
      · go_round
        case rel => exact ⟨k + 1, by omega, by go_num, by rw [HR.out, run_yes s (a + k) lo hi hlt ‹_› ‹_›]; rw [Nat.add_assoc a k 1]; omega⟩
        case measure => simp [intOf]; omega
      · go_ret
        exact ⟨ret_int (by rw [HR.out, run_no s (a + k) lo hi hlt (Or.inr ‹_›)]; simp), rfl⟩
      · go_ret
        exact ⟨ret_int (by rw [HR.out, run_no s (a + k) lo hi hlt (Or.inl ‹_›)]; simp), rfl⟩
    · go_wp2
      go_ret
      exact ⟨ret_int (by rw [HR.out, drop_end s (a + k) (by omega)]; simp [run]), rfl⟩


theorem nB_of (s : ByteArray) (m : Nat) : numeralB s.data.toList m = (decide (0 < s.size) && decide (s.size ≤ m) && (decide (s.size = 1) || (s.data.toList.head? != some 48))) := by
  unfold numeralB; simp

theorem head_of (s : ByteArray) (h : 0 < s.size) : s.data.toList.head? = some s[0] := by
  have := drop_cons s 0 h
  simp only [List.drop_zero] at this
  rw [this]; rfl

theorem byte_eq (a b : UInt8) : ((a.toNat : Int) == (b.toNat : Int)) = (a == b) := by
  rw [Bool.eq_iff_iff]
  simp only [beq_iff_eq]
  constructor
  · intro h; apply UInt8.toNat_inj.1; omega
  · intro h; rw [h]

theorem byte_ne (a b : UInt8) : ((a.toNat : Int) != (b.toNat : Int)) = (a != b) := by
  simp only [bne, byte_eq]

theorem ret_bool {a b : Bool} (h : a = b) : Ending.returned (.bool a) = .returned (.bool b) := by rw [h]

set_option maxHeartbeats 400000 in
theorem numeral_any (s : ByteArray) (m : Nat) (w : World) (hs : s.size ≤ maxLen) (hm : m ≤ 10) :
    Calls Tryd.prog 89 #[.string s, .int .i64 m] w fun e w' => e = .returned (.bool (numeralB s.data.toList m)) ∧ w' = w := by
  unfold maxLen at hs
  go_enter Tryd.func89, Tryd.ntmps89
  go_wp2
  · go_ret
    refine ⟨ret_bool ?_, rfl⟩
    rw [nB_of]
    have h1 : s.size = 1 := by omega
    simp [h1]; omega
  · go_ret
    refine ⟨ret_bool ?_, rfl⟩
    have h0 : 0 < s.size := by assumption
    have h2 : s.size ≤ m := by assumption
    have h1 : ¬ s.size = 1 := by omega
    rw [nB_of, head_of s h0]
    have e1 : ((s.size : Int) == 1) = false := by simp; omega
    have e2 : ((s[0].toNat : Int) != 48) = (s[0] != 48) := byte_ne s[0] 48
    have e3 : (some s[0] != some (48 : UInt8)) = (s[0] != 48) := rfl
    simp only [e1, Bool.false_or, e2, e3]
    simp [h0, h1, h2]
  · go_ret
    refine ⟨ret_bool ?_, rfl⟩
    have h2 : ¬ s.size ≤ m := by assumption
    rw [nB_of]; simp [h2]
  · go_ret
    refine ⟨ret_bool ?_, rfl⟩
    have h2 : ¬ 0 < s.size := by assumption
    rw [nB_of]; simp; omega

theorem take_snoc (s : ByteArray) (k : Nat) (h : k < s.size) : s.data.toList.take (k + 1) = s.data.toList.take k ++ [s[k]] := by
  rw [List.take_succ_eq_append_getElem (by simpa using h)]; rfl

theorem pow5 (k : Nat) (h : k ≤ 5) : (10 : Int) ^ k ≤ 100000 := by
  match k, h with
  | 0, _ => decide
  | 1, _ => decide
  | 2, _ => decide
  | 3, _ => decide
  | 4, _ => decide
  | 5, _ => decide

set_option maxHeartbeats 400000 in
theorem value_any (s : ByteArray) (w : World) (hs : s.size ≤ 5) :
    Calls Tryd.prog 63 #[.string s] w fun e w' => e = .returned (.int .i64 (valueL s.data.toList)) ∧ w' = w := by
  go_enter Tryd.func63, Tryd.ntmps63
  go_wp2
  go_loop [3, 4] (fun n i => ∃ k : Nat, k ≤ s.size ∧ i = .int .i64 k ∧ n = .int .i64 (valueL (s.data.toList.take k))) (fun _ i => s.size - (intOf i).toNat)
  case atStart => exact ⟨0, by omega, rfl, rfl⟩
  case round =>
    obtain ⟨k, hk, rfl, rfl⟩ := hrel
    have hb := valueL_bd (s.data.toList.take k)
    have hp := pow5 (s.data.toList.take k).length (by simp; omega)
    obtain ⟨m, hm⟩ : ∃ m, m = valueL (s.data.toList.take k) := ⟨_, rfl⟩
    rw [← hm] at hb
    obtain ⟨hb1, hb2⟩ : -3000000 ≤ m ∧ m ≤ 3000000 := by omega
    clear hp hb
    by_cases hlt : k < s.size
    · have hsn : valueL (s.data.toList.take (k + 1)) = if s[k] = 35 then m else 10 * m + (s[k].toNat : Int) - 48 := by rw [take_snoc s k hlt, valueL_snoc, hm]
      have HS : Hid _ := hsn
      have hcb : s[k].toNat < 256 := s[k].toNat_lt
      have HC : Hid _ := hcb
      clear hsn hcb
      rw [← hm]
      have HM : Hid _ := hm
      clear hm
      go_wp2
      · go_round
        case rel =>
          refine ⟨k + 1, by omega, by go_num, ?_⟩
          have e : ((s[k].toNat : Int) != 35) = (s[k] != 35) := byte_ne s[k] 35
          have h1 : ((s[k].toNat : Int) != 35) = true := by assumption
          rw [e] at h1
          rw [HS.out, if_neg (by simpa using h1)]
          have := HC.out
          rw [IntWalk.wrap64_in (s[k].toNat : Int) (by omega), IntWalk.wrap64_in (10 * m + (s[k].toNat : Int)) (by omega), IntWalk.wrap64_in _ (by omega)]
        case measure => simp [intOf]; omega
      · go_round
        case rel =>
          refine ⟨k + 1, by omega, by go_num, ?_⟩
          have e : ((s[k].toNat : Int) != 35) = (s[k] != 35) := byte_ne s[k] 35
          have h1 : ((s[k].toNat : Int) != 35) = false := by assumption
          rw [e] at h1
          rw [HS.out, if_pos (by simpa using h1)]
        case measure => simp [intOf]; omega
    · go_wp2
      go_ret
      exact ⟨ret_int (by rw [List.take_of_length_le (by simp; omega)]), rfl⟩

theorem ext_snoc (l : ByteArray) (j k : Nat) (hj : j ≤ k) (hk : k < l.size) : (l.extract j (k + 1)).data.toList = (l.extract j k).data.toList ++ [l[k]] := by
  rw [Lib.extract_data, Lib.extract_data, show k + 1 - j = (k - j) + 1 from by omega, List.take_succ_eq_append_getElem (by simp; omega)]
  congr 2
  rw [List.getElem_drop]
  simp only [show j + (k - j) = k from by omega]
  rfl

theorem amongL_blank (l s : ByteArray) (j k : Nat) (hk : k < l.size) (hb : ((l[k].toNat : Int) == 32) = true) (hne : ((l.extract j k).toList == s.toList) = false) :
    amongL s.data.toList (l.extract j k).data.toList (l.data.toList.drop k) = amongL s.data.toList (l.extract (k + 1) (k + 1)).data.toList (l.data.toList.drop (k + 1)) := by
  rw [drop_cons l k hk]
  have e : ((l[k].toNat : Int) == 32) = (l[k] == 32) := byte_eq l[k] 32
  rw [e] at hb
  rw [Lib.toList_data, Lib.toList_data] at hne
  simp only [amongL]
  rw [if_pos (by simpa using hb), hne, Lib.extract_data (a := k + 1)]
  simp

theorem amongL_hit (l s : ByteArray) (j k : Nat) (hk : k < l.size) (hb : ((l[k].toNat : Int) == 32) = true) (hne : ((l.extract j k).toList == s.toList) = true) :
    amongL s.data.toList (l.extract j k).data.toList (l.data.toList.drop k) = true := by
  rw [drop_cons l k hk]
  have e : ((l[k].toNat : Int) == 32) = (l[k] == 32) := byte_eq l[k] 32
  rw [e] at hb
  rw [Lib.toList_data, Lib.toList_data] at hne
  simp only [amongL]
  rw [if_pos (by simpa using hb), hne]; rfl

theorem amongL_on (l s : ByteArray) (j k : Nat) (hj : j ≤ k) (hk : k < l.size) (hb : ((l[k].toNat : Int) == 32) = false) :
    amongL s.data.toList (l.extract j k).data.toList (l.data.toList.drop k) = amongL s.data.toList (l.extract j (k + 1)).data.toList (l.data.toList.drop (k + 1)) := by
  rw [drop_cons l k hk]
  have e : ((l[k].toNat : Int) == 32) = (l[k] == 32) := byte_eq l[k] 32
  rw [e] at hb
  rw [ext_snoc l j k hj hk]
  simp only [amongL]
  rw [if_neg (by simpa using hb)]

theorem amongL_end (l s : ByteArray) (j : Nat) : amongL s.data.toList (l.extract j l.size).data.toList (l.data.toList.drop l.size) = ((l.extract j l.size).toList == s.toList) := by
  rw [drop_end l l.size (Nat.le_refl _), Lib.toList_data, Lib.toList_data]; rfl

set_option maxHeartbeats 400000 in
theorem among_any (l s : ByteArray) (w : World) (hl : l.size ≤ 100) :
    Calls Tryd.prog 62 #[.string l, .string s] w fun e w' => e = .returned (.bool (amongL s.data.toList [] l.data.toList)) ∧ w' = w := by
  go_enter Tryd.func62, Tryd.ntmps62
  go_wp2
  go_loop [5, 6] (fun a i => ∃ k j : Nat, k ≤ l.size + 1 ∧ j ≤ k ∧ i = .int .i64 k ∧ a = .int .i64 j ∧
      amongL s.data.toList [] l.data.toList = if k ≤ l.size then amongL s.data.toList (l.extract j k).data.toList (l.data.toList.drop k) else false) (fun _ i => l.size + 1 - (intOf i).toNat)
  case atStart => exact ⟨0, 0, by omega, by omega, rfl, rfl, by simp⟩
  case round =>
    obtain ⟨k, j, hk, hj, rfl, rfl, hr⟩ := hrel
    have HR : Hid _ := hr
    clear hr
    by_cases hlt : k < l.size
    · have hkl : (k == l.size) = false := by simp; omega
      by_cases hb : ((l[k].toNat : Int) == 32) = true
      · go_wp2
        · go_ret
          refine ⟨ret_bool ?_, rfl⟩
          rw [HR.out, if_pos (by omega), amongL_hit l s j k hlt hb ‹_›]
        · go_round
          case rel => exact ⟨k + 1, k + 1, by omega, by omega, by go_num, by go_num, by rw [HR.out, if_pos (by omega), if_pos (by omega)]; exact amongL_blank l s j k hlt hb ‹_›⟩
          case measure => simp [intOf]; omega
      · have hb' : ((l[k].toNat : Int) == 32) = false := by simpa using hb
        clear hb
        go_wp2
        go_round
        case rel => exact ⟨k + 1, j, by omega, by omega, by go_num, by go_num, by rw [HR.out, if_pos (by omega), if_pos (by omega)]; exact amongL_on l s j k hj hlt hb'⟩
        case measure => simp [intOf]; omega
    · by_cases he : k = l.size
      · subst he
        have HE := amongL_end l s j
        have HE' : Hid _ := HE
        clear HE
        go_wp2
        · go_ret
          refine ⟨ret_bool ?_, rfl⟩
          rw [HR.out, if_pos (by omega), HE'.out]; symm; assumption
        · go_round
          case rel => exact ⟨l.size + 1, l.size + 1, by omega, by omega, by go_num, by go_num, by rw [HR.out, if_pos (by omega), if_neg (by omega), HE'.out]; assumption⟩
          case measure => simp [intOf]
      · go_wp2
        go_ret
        exact ⟨ret_bool (by rw [HR.out, if_neg (by omega)]), rfl⟩

set_option maxHeartbeats 400000 in
theorem size_any (s : ByteArray) (w : World) (hs : s.size ≤ maxLen) :
    Calls Tryd.prog 84 #[.string s] w fun e w' => e = .returned (.int .i64 (sizeL s.data.toList : Nat)) ∧ w' = w := by
  unfold maxLen at hs
  go_enter Tryd.func84, Tryd.ntmps84
  go_wp2
  go_loop [3, 4] (fun n i => ∃ k : Nat, k ≤ s.size ∧ i = .int .i64 k ∧ n = .int .i64 (sizeL (s.data.toList.take k) : Nat)) (fun _ i => s.size - (intOf i).toNat)
  case atStart => exact ⟨0, by omega, rfl, rfl⟩
  case round =>
    obtain ⟨k, hk, rfl, rfl⟩ := hrel
    have hb := sizeL_le (s.data.toList.take k)
    have hb' : sizeL (s.data.toList.take k) ≤ k := by simp at hb; omega
    clear hb
    by_cases hlt : k < s.size
    · have hsn : sizeL (s.data.toList.take (k + 1)) = sizeL (s.data.toList.take k) + if s[k] == 60 then 1 else 0 := by rw [take_snoc s k hlt, sizeL_snoc]
      have e : ((s[k].toNat : Int) == 60) = (s[k] == 60) := byte_eq s[k] 60
      have HS : Hid _ := hsn
      have HE : Hid _ := e
      clear hsn e
      go_wp2
      · go_round
        case rel =>
          refine ⟨k + 1, by omega, by go_num, ?_⟩
          have h1 : ((s[k].toNat : Int) == 60) = true := by assumption
          rw [HE.out] at h1
          rw [HS.out, if_pos h1]; go_num
        case measure => simp [intOf]; omega
      · go_round
        case rel =>
          refine ⟨k + 1, by omega, by go_num, ?_⟩
          have h1 : ((s[k].toNat : Int) == 60) = false := by assumption
          rw [HE.out] at h1
          rw [HS.out, if_neg (by rw [h1]; simp)]; go_num
        case measure => simp [intOf]; omega
    · go_wp2
      go_ret
      exact ⟨ret_int (by rw [List.take_of_length_le (by simp; omega)]), rfl⟩
end Go.Proofs.YtglkpkmdoohdcaaDoor
