import Derived.Test.YtglkpkmdoohdcaaDoorRa
import Derived.Deep.RegionWith
namespace Go.Proofs.YtglkpkmdoohdcaaDoor
open Go.RowKit

def bs (l : List UInt8) : ByteArray := ⟨l.toArray⟩
theorem bs_toList (l : List UInt8) : (bs l).data.toList = l := rfl
theorem bs_eq {s : ByteArray} {l : List UInt8} (h : s.data.toList = l) : s = bs l := by subst h; cases s; rfl

theorem ext_of (s : ByteArray) (a n : Nat) : (s.extract a (a + n)).data.toList = (s.data.toList.drop a).take n := by
  rw [Lib.extract_data, show a + n - a = n from by omega]

def tokVal (s : ByteArray) (a : Nat) (n : Nat) (c : Cl) : Value := .agg #[.string (s.extract a (a + n)), .int .i64 a, .string (bs c.bytes)]


theorem size_list (s : ByteArray) : s.data.toList.length = s.size := by simp

set_option maxHeartbeats 1000000 in
theorem token_word (s : ByteArray) (a : Nat) (w : World) (hs : s.size ≤ 9000) (ha : a < s.size) (h1 : 0 < run 97 122 (s.data.toList.drop a)) :
    Calls Tryd.prog 61 #[.string s, .int .i64 a] w fun e w' => e = .returned (tokVal s a (tokenOf (s.data.toList.drop a)).1 (tokenOf (s.data.toList.drop a)).2) ∧ Below w.heap.size w w' := by
  have hle := run_le 97 122 (s.data.toList.drop a)
  have hto : tokenOf (s.data.toList.drop a) = (run 97 122 (s.data.toList.drop a), wordCl ((s.data.toList.drop a).take (run 97 122 (s.data.toList.drop a))) (run 97 122 (s.data.toList.drop a))) := by unfold tokenOf; rw [if_pos h1]
  have hrow := row_any s a 97 122
  rw [hto]
  simp only [List.length_drop] at hle
  rw [size_list] at hle
  generalize run 97 122 (s.data.toList.drop a) = n at *
  clear hto
  have ham := among_any (bs [108, 101, 116, 32, 112, 97, 105, 114, 32, 102, 115, 116, 32, 115, 110, 100, 32, 105, 102, 32, 97, 100, 100, 32, 115, 117, 98, 32, 108, 101, 115, 115, 32, 108, 111, 111, 112, 32, 110, 101, 119]) (s.extract a (a + n))
  rw [bs_toList, among_kept, ext_of] at ham
  unfold wordCl
  cases hk : kwOf ((s.data.toList.drop a).take n) with
  | some k =>
    rw [hk] at ham
    have hkb := kwOf_some hk
    have hx : s.extract a (a + n) = bs k.bytes := bs_eq (by rw [ext_of, hkb])
    have HX : Hid _ := hx
    clear hk hx hkb
    go_enter Tryd.func61, Tryd.ntmps61
    go_wp2_with (first
      | (go_at_call_of 88 (Value.int IntKind.u8 97); refine (hrow _ (by unfold maxLen; omega) (by omega)).mono ?_; rintro e w' ⟨rfl, rfl⟩)
      | (go_at_call 62; refine (ham _ (by decide)).mono ?_; rintro e w' ⟨rfl, rfl⟩))
    refine bodyPost_ret (v := .agg #[.string (s.extract a (a + n)), .int .i64 a, .string (s.extract a (a + n))]) (by simp [results, Tryd.results61, go_sem]) rfl ⟨?_, (Below.refl _ _).alloc (Nat.le_refl _) _⟩
    unfold tokVal
    simp only [Cl.bytes]
    rw [HX.out]
  | none =>
    rw [hk] at ham
    clear hk
    by_cases h8 : n ≤ 8
    · go_enter Tryd.func61, Tryd.ntmps61
      go_wp2_with (first
        | (go_at_call_of 88 (Value.int IntKind.u8 97); refine (hrow _ (by unfold maxLen; omega) (by omega)).mono ?_; rintro e w' ⟨rfl, rfl⟩)
        | (go_at_call 62; refine (ham _ (by decide)).mono ?_; rintro e w' ⟨rfl, rfl⟩))
      refine bodyPost_ret (v := .agg #[.string (s.extract a (a + n)), .int .i64 a, .string (bs Cl.nam.bytes)]) (by simp [results, Tryd.results61, go_sem, bs, Cl.bytes]) rfl ⟨?_, (Below.refl _ _).alloc (Nat.le_refl _) _⟩
      first | rfl | simp only [tokVal, if_pos h8]
    · go_enter Tryd.func61, Tryd.ntmps61
      go_wp2_with (first
        | (go_at_call_of 88 (Value.int IntKind.u8 97); refine (hrow _ (by unfold maxLen; omega) (by omega)).mono ?_; rintro e w' ⟨rfl, rfl⟩)
        | (go_at_call 62; refine (ham _ (by decide)).mono ?_; rintro e w' ⟨rfl, rfl⟩))
      refine bodyPost_ret (v := .agg #[.string (s.extract a (a + n)), .int .i64 a, .string (bs Cl.bad.bytes)]) (by simp [results, Tryd.results61, go_sem, bs, Cl.bytes]) rfl ⟨?_, (Below.refl _ _).alloc (Nat.le_refl _) _⟩
      first | rfl | simp only [tokVal, if_neg h8]

set_option maxHeartbeats 1000000 in
theorem token_digits (s : ByteArray) (a : Nat) (w : World) (hs : s.size ≤ 9000) (ha : a < s.size) (h1 : run 97 122 (s.data.toList.drop a) = 0) (h2 : 0 < run 48 57 (s.data.toList.drop a)) :
    Calls Tryd.prog 61 #[.string s, .int .i64 a] w fun e w' => e = .returned (tokVal s a (tokenOf (s.data.toList.drop a)).1 (tokenOf (s.data.toList.drop a)).2) ∧ Below w.heap.size w w' := by
  have hle := run_le 48 57 (s.data.toList.drop a)
  have hto : tokenOf (s.data.toList.drop a) = (run 48 57 (s.data.toList.drop a), if numeralB ((s.data.toList.drop a).take (run 48 57 (s.data.toList.drop a))) 4 then Cl.num else Cl.bad) := by
    unfold tokenOf; rw [if_neg (by omega), if_pos h2]
  have hrow := row_any s a 97 122
  have hrow2 := row_any s a 48 57
  rw [hto]
  rw [h1] at hrow
  simp only [List.length_drop] at hle
  rw [size_list] at hle
  generalize run 48 57 (s.data.toList.drop a) = n at *
  clear hto h1
  have hnu := numeral_any (s.extract a (a + n)) 4
  rw [ext_of] at hnu
  generalize numeralB ((s.data.toList.drop a).take n) 4 = q at *
  cases q
  all_goals
    go_enter Tryd.func61, Tryd.ntmps61
    go_wp2_with (first
      | (go_at_call_of 88 (Value.int IntKind.u8 97); refine (hrow _ (by unfold maxLen; omega) (by omega)).mono ?_; rintro e w' ⟨rfl, rfl⟩)
      | (go_at_call_of 88 (Value.int IntKind.u8 48); refine (hrow2 _ (by unfold maxLen; omega) (by omega)).mono ?_; rintro e w' ⟨rfl, rfl⟩)
      | (go_at_call 89; refine (hnu _ (by unfold maxLen; simp; omega) (by omega)).mono ?_; rintro e w' ⟨rfl, rfl⟩))
  · exact bodyPost_ret (v := .agg #[.string (s.extract a (a + n)), .int .i64 a, .string (bs Cl.bad.bytes)]) (by simp [results, Tryd.results61, go_sem, bs, Cl.bytes]) rfl ⟨rfl, (Below.refl _ _).alloc (Nat.le_refl _) _⟩
  · exact bodyPost_ret (v := .agg #[.string (s.extract a (a + n)), .int .i64 a, .string (bs Cl.num.bytes)]) (by simp [results, Tryd.results61, go_sem, bs, Cl.bytes]) rfl ⟨rfl, (Below.refl _ _).alloc (Nat.le_refl _) _⟩

theorem drop_succ (s : ByteArray) (a : Nat) (ha : a < s.size) : s.data.toList.drop a = s[a] :: s.data.toList.drop (a + 1) := drop_cons s a ha

set_option maxHeartbeats 1000000 in
theorem token_region (s : ByteArray) (a : Nat) (w : World) (hs : s.size ≤ 9000) (ha : a < s.size) (h1 : run 97 122 (s.data.toList.drop a) = 0) (h2 : run 48 57 (s.data.toList.drop a) = 0) (h3 : s[a] = 35) :
    Calls Tryd.prog 61 #[.string s, .int .i64 a] w fun e w' => e = .returned (tokVal s a (tokenOf (s.data.toList.drop a)).1 (tokenOf (s.data.toList.drop a)).2) ∧ Below w.heap.size w w' := by
  have hle := run_le 48 57 (s.data.toList.drop (a + 1))
  have hto : tokenOf (s.data.toList.drop a) = (run 48 57 (s.data.toList.drop (a + 1)) + 1, if numeralB ((s.data.toList.drop (a + 1)).take (run 48 57 (s.data.toList.drop (a + 1)))) 3 then Cl.reg else Cl.bad) := by
    unfold tokenOf; rw [if_neg (by omega), if_neg (by omega), drop_cons s a ha]; simp only [h3]; rfl
  have hrow := row_any s a 97 122
  have hrow2 := row_any s a 48 57
  have hrow3 := row_any s (a + 1) 48 57
  rw [hto]
  rw [h1] at hrow
  rw [h2] at hrow2
  have h3' : ((s[a].toNat : Int) == 35) = true := by rw [h3]; rfl
  simp only [List.length_drop] at hle
  rw [size_list] at hle
  generalize run 48 57 (s.data.toList.drop (a + 1)) = n at *
  clear hto h1 h2 h3
  have hnu := numeral_any (s.extract (a + 1) (a + 1 + n)) 3
  rw [ext_of] at hnu
  generalize numeralB ((s.data.toList.drop (a + 1)).take n) 3 = q at *
  have e1 : ((a + 1 : Nat) : Int) = (a : Int) + 1 := by omega
  rw [e1] at hrow3
  have e2 : a + (n + 1) = a + 1 + n := by omega
  unfold tokVal
  rw [e2]
  cases q
  all_goals
    go_enter Tryd.func61, Tryd.ntmps61
    go_wp2_with (first
      | (go_at_call_of 88 (Value.int IntKind.u8 97); refine (hrow _ (by unfold maxLen; omega) (by omega)).mono ?_; rintro e w' ⟨rfl, rfl⟩)
      | (go_at_call_of 88 (Value.int IntKind.i64 (a : Int)); refine (hrow2 _ (by unfold maxLen; omega) (by omega)).mono ?_; rintro e w' ⟨rfl, rfl⟩)
      | (go_at_call_of 88 (Value.int IntKind.u8 48); refine (hrow3 _ (by unfold maxLen; omega) (by omega)).mono ?_; rintro e w' ⟨rfl, rfl⟩)
      | (go_at_call 89; refine (hnu _ (by unfold maxLen; simp; omega) (by omega)).mono ?_; rintro e w' ⟨rfl, rfl⟩))
  · exact bodyPost_ret (v := .agg #[.string (s.extract a (a + 1 + n)), .int .i64 a, .string (bs Cl.bad.bytes)]) (by simp [results, Tryd.results61, go_sem, bs, Cl.bytes]) rfl ⟨rfl, (Below.refl _ _).alloc (Nat.le_refl _) _⟩
  · exact bodyPost_ret (v := .agg #[.string (s.extract a (a + 1 + n)), .int .i64 a, .string (bs Cl.reg.bytes)]) (by simp [results, Tryd.results61, go_sem, bs, Cl.bytes]) rfl ⟨rfl, (Below.refl _ _).alloc (Nat.le_refl _) _⟩

theorem ext_one (s : ByteArray) (a : Nat) (ha : a < s.size) : (s.extract a (a + 1)).toList = [s[a]] := by
  rw [Lib.toList_data, ext_of, drop_cons s a ha]; rfl

set_option maxHeartbeats 1000000 in
theorem token_else (s : ByteArray) (a : Nat) (w : World) (hs : s.size ≤ 9000) (ha : a < s.size) (h1 : run 97 122 (s.data.toList.drop a) = 0) (h2 : run 48 57 (s.data.toList.drop a) = 0) (h3 : ¬ s[a] = 35) :
    Calls Tryd.prog 61 #[.string s, .int .i64 a] w fun e w' => e = .returned (tokVal s a (tokenOf (s.data.toList.drop a)).1 (tokenOf (s.data.toList.drop a)).2) ∧ Below w.heap.size w w' := by
  have hto : tokenOf (s.data.toList.drop a) = (1, if s[a] = 40 then Cl.opn else if s[a] = 41 then Cl.cls else Cl.bad) := by
    unfold tokenOf; rw [if_neg (by omega), if_neg (by omega), drop_cons s a ha]; simp only [if_neg h3]
  have hrow := row_any s a 97 122
  have hrow2 := row_any s a 48 57
  rw [hto]
  rw [h1] at hrow
  rw [h2] at hrow2
  have h3' : ((s[a].toNat : Int) == 35) = false := by have : ((s[a].toNat : Int) == 35) = (s[a] == 35) := byte_eq s[a] 35; rw [this]; simpa using h3
  have hx := ext_one s a ha
  have hx' : (s.extract a (a + 1)).data.toList = [s[a]] := by rw [← Lib.toList_data, hx]
  have HX : Hid _ := hx'
  unfold tokVal
  clear hto h1 h2 h3 hx'
  by_cases c1 : s[a] = 40
  · have t1 : ((s.extract a (a + 1)).toList == [40]) = true := by rw [hx, c1]; rfl
    have H1 : Hid _ := c1
    clear hx c1
    go_enter Tryd.func61, Tryd.ntmps61
    go_wp2_with (first
      | (go_at_call_of 88 (Value.int IntKind.u8 97); refine (hrow _ (by unfold maxLen; omega) (by omega)).mono ?_; rintro e w' ⟨rfl, rfl⟩)
      | (go_at_call_of 88 (Value.int IntKind.u8 48); refine (hrow2 _ (by unfold maxLen; omega) (by omega)).mono ?_; rintro e w' ⟨rfl, rfl⟩))
    refine bodyPost_ret (v := .agg #[.string (s.extract a (a + 1)), .int .i64 a, .string (s.extract a (a + 1))]) (by simp [results, Tryd.results61, go_sem]) rfl ⟨?_, (Below.refl _ _).alloc (Nat.le_refl _) _⟩
    try rw [if_pos H1.out]
    have : s.extract a (a + 1) = bs Cl.opn.bytes := bs_eq (by rw [HX.out, H1.out]; rfl)
    rw [this]
  · by_cases c2 : s[a] = 41
    · have t1 : ((s.extract a (a + 1)).toList == [40]) = false := by rw [hx, c2]; rfl
      have t2 : ((s.extract a (a + 1)).toList == [41]) = true := by rw [hx, c2]; rfl
      have H1 : Hid _ := c1
      have H2 : Hid _ := c2
      clear hx c1 c2
      go_enter Tryd.func61, Tryd.ntmps61
      go_wp2_with (first
        | (go_at_call_of 88 (Value.int IntKind.u8 97); refine (hrow _ (by unfold maxLen; omega) (by omega)).mono ?_; rintro e w' ⟨rfl, rfl⟩)
        | (go_at_call_of 88 (Value.int IntKind.u8 48); refine (hrow2 _ (by unfold maxLen; omega) (by omega)).mono ?_; rintro e w' ⟨rfl, rfl⟩))
      refine bodyPost_ret (v := .agg #[.string (s.extract a (a + 1)), .int .i64 a, .string (s.extract a (a + 1))]) (by simp [results, Tryd.results61, go_sem]) rfl ⟨?_, (Below.refl _ _).alloc (Nat.le_refl _) _⟩
      try rw [if_neg H1.out, if_pos H2.out]
      have : s.extract a (a + 1) = bs Cl.cls.bytes := bs_eq (by rw [HX.out, H2.out]; rfl)
      rw [this]
    · have t1 : ((s.extract a (a + 1)).toList == [40]) = false := by rw [hx]; simpa using c1
      have t2 : ((s.extract a (a + 1)).toList == [41]) = false := by rw [hx]; simpa using c2
      have H1 : Hid _ := c1
      have H2 : Hid _ := c2
      clear hx c1 c2
      go_enter Tryd.func61, Tryd.ntmps61
      go_wp2_with (first
        | (go_at_call_of 88 (Value.int IntKind.u8 97); refine (hrow _ (by unfold maxLen; omega) (by omega)).mono ?_; rintro e w' ⟨rfl, rfl⟩)
        | (go_at_call_of 88 (Value.int IntKind.u8 48); refine (hrow2 _ (by unfold maxLen; omega) (by omega)).mono ?_; rintro e w' ⟨rfl, rfl⟩))
      refine bodyPost_ret (v := .agg #[.string (s.extract a (a + 1)), .int .i64 a, .string (bs Cl.bad.bytes)]) (by simp [results, Tryd.results61, go_sem, bs, Cl.bytes]) rfl ⟨?_, (Below.refl _ _).alloc (Nat.le_refl _) _⟩
      first | rfl | rw [if_neg H1.out, if_neg H2.out]

theorem token_any (s : ByteArray) (a : Nat) (w : World) (hs : s.size ≤ 9000) (ha : a < s.size) :
    Calls Tryd.prog 61 #[.string s, .int .i64 a] w fun e w' => e = .returned (tokVal s a (tokenOf (s.data.toList.drop a)).1 (tokenOf (s.data.toList.drop a)).2) ∧ Below w.heap.size w w' := by
  by_cases h1 : 0 < run 97 122 (s.data.toList.drop a)
  · exact token_word s a w hs ha h1
  · by_cases h2 : 0 < run 48 57 (s.data.toList.drop a)
    · exact token_digits s a w hs ha (by omega) h2
    · by_cases h3 : s[a] = 35
      · exact token_region s a w hs ha (by omega) (by omega) h3
      · exact token_else s a w hs ha (by omega) (by omega) h3
end Go.Proofs.YtglkpkmdoohdcaaDoor
