import Derived.Test.YtglkpkmdoohdcaaDoorRc
import Derived.Test.YtglkpkmdoohdcaaDoorMe
import Derived.BigQuiet
import Derived.Deep.QuietTactic
namespace Go.Proofs.YtglkpkmdoohdcaaDoor
open Go.RowKit
open Go.Lib (decDigits)

theorem endL_at (s : ByteArray) (k : Nat) (h : k < s.size) (o : Int) : endL o (s.data.toList.drop k) =
    if (if s[k] = 60 then o + 1 else if s[k] = 62 then o - 1 else o) = 0 ∧ (s[k] = 110 ∨ s[k] = 62) then 1 else 1 + endL (if s[k] = 60 then o + 1 else if s[k] = 62 then o - 1 else o) (s.data.toList.drop (k + 1)) := by
  rw [drop_cons s k h]; rfl

theorem bs_beq0 (l m : List UInt8) : ((bs l).toList == m) = (l == m) := by rw [Lib.toList_data]; rfl
theorem beq_of (a b : UInt8) : ((a.toNat : Int) == (b.toNat : Int)) = decide (a = b) := by rw [byte_eq]; rfl

set_option maxHeartbeats 800000 in
theorem end_any (s : ByteArray) (a : Nat) (w : World) (hs : s.size ≤ 100000) (ha : a ≤ s.size) :
    Calls Tryd.prog 124 #[.string s, .int .i64 a] w fun e w' => e = .returned (.int .i64 (a + endL 0 (s.data.toList.drop a) : Nat)) ∧ w' = w := by
  go_enter Tryd.func124, Tryd.ntmps124
  go_wp2
  go_loop [5, 6] (fun o i => ∃ (k : Nat) (q : Int), a ≤ k ∧ k ≤ s.size ∧ i = .int .i64 k ∧ o = .int .i64 q ∧ -(k : Int) ≤ q ∧ q ≤ k ∧ a + endL 0 (s.data.toList.drop a) = k + endL q (s.data.toList.drop k)) (fun _ i => s.size - (intOf i).toNat)
  case atStart => exact ⟨a, 0, by omega, ha, rfl, rfl, by omega, by omega, rfl⟩
  case round =>
    obtain ⟨k, q, hk0, hk, rfl, rfl, hq1, hq2, hall⟩ := hrel
    have HA : Hid _ := hall
    clear hall
    by_cases hlt : k < s.size
    · have hst := endL_at s k hlt q
      have HS : Hid _ := hst
      have b60 : ((s[k].toNat : Int) == 60) = decide (s[k] = 60) := beq_of s[k] 60
      have b62 : ((s[k].toNat : Int) == 62) = decide (s[k] = 62) := beq_of s[k] 62
      have b110 : ((s[k].toNat : Int) == 110) = decide (s[k] = 110) := beq_of s[k] 110
      clear hst
      by_cases h1 : s[k] = 60
      · have e62 : ¬ s[k] = 62 := by rw [h1]; decide
        have e110 : ¬ s[k] = 110 := by rw [h1]; decide
        rw [decide_eq_true h1] at b60
        rw [decide_eq_false e62] at b62
        rw [decide_eq_false e110] at b110
        have HS2 : Hid (endL q (s.data.toList.drop k) = 1 + endL (q + 1) (s.data.toList.drop (k + 1))) := by
          have := HS.out; rw [if_pos h1, if_neg (by rintro ⟨_, e | e⟩; exact e110 e; exact e62 e)] at this; exact this
        clear h1 e62 e110 HS
        go_wp2
        all_goals
          go_round
          case rel => exact ⟨k + 1, q + 1, by omega, by omega, by go_num, by go_num, by omega, by omega, by rw [HA.out, HS2.out]; omega⟩
          case measure => simp [intOf]; omega
      · rw [decide_eq_false h1] at b60
        by_cases h2 : s[k] = 62
        · have e110 : ¬ s[k] = 110 := by rw [h2]; decide
          rw [decide_eq_true h2] at b62
          rw [decide_eq_false e110] at b110
          by_cases hq : q = 1
          · subst hq
            have HS2 : Hid (endL 1 (s.data.toList.drop k) = 1) := by
              have := HS.out; rw [if_neg h1, if_pos h2, if_pos ⟨by omega, Or.inr h2⟩] at this; exact this
            clear h1 h2 e110 HS
            go_wp2
            go_ret
            exact ⟨ret_int (by have h := HA.out; rw [HS2.out] at h; omega), rfl⟩
          · have HS2 : Hid (endL q (s.data.toList.drop k) = 1 + endL (q - 1) (s.data.toList.drop (k + 1))) := by
              have := HS.out; rw [if_neg h1, if_pos h2, if_neg (by omega)] at this; exact this
            have hq' : (q - 1 == 0) = false := by rw [beq_eq_false_iff_ne]; omega
            clear h1 h2 e110 HS
            go_wp2
            all_goals
              go_round
              case rel => exact ⟨k + 1, q - 1, by omega, by omega, by go_num, by go_num, by omega, by omega, by rw [HA.out, HS2.out]; omega⟩
              case measure => simp [intOf]; omega
        · rw [decide_eq_false h2] at b62
          by_cases h3 : s[k] = 110
          · rw [decide_eq_true h3] at b110
            by_cases hq : q = 0
            · subst hq
              have HS2 : Hid (endL 0 (s.data.toList.drop k) = 1) := by
                have := HS.out; rw [if_neg h1, if_neg h2, if_pos ⟨rfl, Or.inl h3⟩] at this; exact this
              clear h1 h2 h3 HS
              go_wp2
              go_ret
              exact ⟨ret_int (by have h := HA.out; rw [HS2.out] at h; omega), rfl⟩
            · have HS2 : Hid (endL q (s.data.toList.drop k) = 1 + endL q (s.data.toList.drop (k + 1))) := by
                have := HS.out; rw [if_neg h1, if_neg h2, if_neg (by omega)] at this; exact this
              have hq' : (q == 0) = false := by rw [beq_eq_false_iff_ne]; omega
              clear h1 h2 h3 HS
              go_wp2
              all_goals
                go_round
                case rel => exact ⟨k + 1, q, by omega, by omega, by go_num, by go_num, by omega, by omega, by rw [HA.out, HS2.out]; omega⟩
                case measure => simp [intOf]; omega
          · rw [decide_eq_false h3] at b110
            have HS2 : Hid (endL q (s.data.toList.drop k) = 1 + endL q (s.data.toList.drop (k + 1))) := by
              have := HS.out; rw [if_neg h1, if_neg h2, if_neg (by rintro ⟨_, e | e⟩; exact h3 e; exact h2 e)] at this; exact this
            clear h1 h2 h3 HS
            go_wp2
            all_goals
              go_round
              case rel => exact ⟨k + 1, q, by omega, by omega, by go_num, by go_num, by omega, by omega, by rw [HA.out, HS2.out]; omega⟩
              case measure => simp [intOf]; omega
    · go_wp2
      go_ret
      exact ⟨ret_int (by have h := HA.out; rw [drop_end s k (by omega)] at h; simp only [endL] at h; omega), rfl⟩

theorem ext_bs (s : ByteArray) (a b : Nat) (l : List UInt8) (h : (s.data.toList.drop a).take (b - a) = l) : s.extract a b = bs l := bs_eq (by rw [Lib.extract_data, h])

theorem dec_len (r : Nat) (h : r < 1000) : (decDigits r).length ≤ 3 := by
  rw [decDigits]; split
  · simp
  · rw [decDigits]; split
    · simp
    · rw [decDigits]; split
      · simp
      · omega
theorem dec_pos (r : Nat) : 0 < (decDigits r).length := by rw [decDigits]; split <;> simp


theorem bs_get (l : List UInt8) (k : Nat) (h : k < (bs l).size) : (bs l)[k] = l[k]'(by rw [bs_size] at h; exact h) := rfl

set_option maxHeartbeats 800000 in
theorem halves_n (w : World) : Calls Tryd.prog 111 #[.string (bs Ty.n.txt)] w fun e w' => e = .returned (.tuple #[.string (bs []), .string (bs []), .bool false]) ∧ w' = w := by
  have hse : ((bs Ty.n.txt).toList == []) = false := by rw [bs_beq0]; decide
  go_enter Tryd.func111, Tryd.ntmps111
  go_wp2
  go_ret3
  exact ⟨rfl, rfl⟩

theorem txt_colon (r : Nat) (a b : Ty) (k : Nat) (hk : k < (bs (Ty.p r a b).txt).size) (h1 : 1 ≤ k) (h2 : k ≤ (decDigits r).length) : (bs (Ty.p r a b).txt)[k] ≠ 58 := by
  rw [bs_get]
  simp only [Ty.txt]
  obtain ⟨j, rfl⟩ : ∃ j, k = j + 1 := ⟨k - 1, by omega⟩
  rw [List.getElem_cons_succ, List.getElem_append_left (by omega)]
  exact (digit_ne (dec_digit r _ (List.getElem_mem _))).1
theorem txt_colon_at (r : Nat) (a b : Ty) (hk : (decDigits r).length + 1 < (bs (Ty.p r a b).txt).size) : (bs (Ty.p r a b).txt)[(decDigits r).length + 1] = 58 := by
  rw [bs_get]
  simp only [Ty.txt]
  rw [List.getElem_cons_succ, List.getElem_append_right (by omega)]
  simp
theorem txt_len (r : Nat) (a b : Ty) : (Ty.p r a b).txt.length = (decDigits r).length + a.txt.length + b.txt.length + 3 := by
  simp [Ty.txt]; omega
theorem txt_drop (r : Nat) (a b : Ty) : (Ty.p r a b).txt.drop ((decDigits r).length + 2) = a.txt ++ (b.txt ++ [62]) := by
  simp only [Ty.txt]
  rw [List.drop_succ_cons, List.drop_append]
  simp


set_option maxHeartbeats 800000 in
theorem halves_core (S xa xb : ByteArray) (D A : Nat) (w : World) (hs : S.size ≤ 100000) (hD : D + 2 + A + 2 ≤ S.size) (hem : S.toList.isEmpty = false)
    (h0 : (((S[0]'(by omega)).toNat : Int) != 60) = false) (hcol : Hid (∀ (k : Nat) (hk : k < S.size), 1 ≤ k → k ≤ D → S[k] ≠ 58)) (hcat : Hid (S[D + 1]'(by omega) = 58))
    (hend : ∀ w, Calls Tryd.prog 124 #[.string S, .int .i64 ((D : Int) + 1 + 1)] w fun e w' => e = .returned (.int .i64 (D + 2 + A : Nat)) ∧ w' = w)
    (hxa : Hid (S.extract (D + 2) (D + 2 + A) = xa)) (hxb : Hid (S.extract (D + 2 + A) (S.size - 1) = xb)) :
    Calls Tryd.prog 111 #[.string S] w fun e w' => e = .returned (.tuple #[.string xa, .string xb, .bool true]) ∧ ∃ n, w' = w.drewN n := by
  go_enter Tryd.func111, Tryd.ntmps111
  go_wp2
  go_loop [5] (fun i => ∃ k : Nat, 1 ≤ k ∧ k ≤ D + 1 ∧ i = .int .i64 k) (fun i => D + 1 - (intOf i).toNat)
  case atStart => exact ⟨1, by omega, by omega, rfl⟩
  case round =>
    obtain ⟨k, hk1, hk2, rfl⟩ := hrel
    by_cases hkd : k ≤ D
    · have hne := hcol.out k (by omega) hk1 hkd
      have hne' : (((S[k]'(by omega)).toNat : Int) != 58) = true := by
        have : (((S[k]'(by omega)).toNat : Int) != 58) = ((S[k]'(by omega)) != 58) := byte_ne _ 58
        rw [this]; simpa using hne
      clear hne
      go_wp2
      go_round
      case rel => exact ⟨k + 1, by omega, by omega, by go_num⟩
      case measure => simp [intOf]; omega
    · have hkd' : k = D + 1 := by omega
      subst hkd'
      have heq' : (((S[D + 1]'(by omega)).toNat : Int) != 58) = false := by
        rw [hcat.out]; rfl
      go_wp2_with (go_at_call 124; refine (hend _).mono ?_; rintro e w' ⟨rfl, rfl⟩)
      go_quiet (fail)
      go_wp2
      go_ret3
      exact ⟨by rw [← hxa.out, ← hxb.out]; rfl, _, rfl⟩

theorem halves_p (r : Nat) (a b : Ty) (w : World) (hs : (Ty.p r a b).txt.length ≤ 100000) : Calls Tryd.prog 111 #[.string (bs (Ty.p r a b).txt)] w fun e w' => e = .returned (.tuple #[.string (bs a.txt), .string (bs b.txt), .bool true]) ∧ ∃ n, w' = w.drewN n := by
  have hlen := txt_len r a b
  have hdr := txt_drop r a b
  have hpa : 0 < a.txt.length := List.length_pos_iff.2 (txt_ne a)
  have hpb : 0 < b.txt.length := List.length_pos_iff.2 (txt_ne b)
  have hsz : (bs (Ty.p r a b).txt).size = (Ty.p r a b).txt.length := bs_size _
  refine halves_core (bs (Ty.p r a b).txt) (bs a.txt) (bs b.txt) (decDigits r).length a.txt.length w (by omega) (by omega) (by rw [Lib.toList_data]; rfl) rfl (txt_colon r a b) (txt_colon_at r a b (by omega)) ?_ ?_ ?_
  · intro w
    have hend := end_any (bs (Ty.p r a b).txt) ((decDigits r).length + 2) w (by omega) (by omega)
    rw [bs_toList, hdr, endL_txt] at hend
    have ec : (((decDigits r).length + 2 : Nat) : Int) = ((decDigits r).length : Int) + 1 + 1 := by omega
    rw [ec] at hend
    exact hend
  · exact ext_bs _ _ _ _ (by rw [bs_toList, hdr]; simp)
  · refine ext_bs _ _ _ _ ?_
    rw [bs_toList, ← List.drop_drop, hdr, List.drop_left' rfl, hsz, hlen, List.take_append_of_le_length (by omega), List.take_of_length_le (by omega)]
end Go.Proofs.YtglkpkmdoohdcaaDoor
