import Derived.Test.YtpicaknklgccoaaGreatDoorP1
import Derived.Deep.RegionWith
import Derived.ArgAppend
namespace Go.Proofs.YtpicaknklgccoaaGreatDoor
open Go.RowKit
def bs (l : List UInt8) : ByteArray := ⟨l.toArray⟩
theorem bs_toList (l : List UInt8) : (bs l).data.toList = l := rfl
theorem bs_eq {s : ByteArray} {l : List UInt8} (h : s.data.toList = l) : s = bs l := by subst h; cases s; rfl
theorem ext_of (s : ByteArray) (a n : Nat) : (s.extract a (a + n)).data.toList = (s.data.toList.drop a).take n := by
 rw [Lib.extract_data, show a + n - a = n from by omega]
def tokVal (s : ByteArray) (a : Nat) (n : Nat) (c : Cl) : Value := .agg #[.string (s.extract a (a + n)), .int .i64 a, .string (bs c.bytes)]
theorem size_list (s : ByteArray) : s.data.toList.length = s.size := by simp
set_option maxHeartbeats 1000000 in
theorem token_word (s : ByteArray) (a : Nat) (w : World) (hs : s.size ≤ 9000) (ha : a < s.size) (h1 : 0 < run 97 122 (s.data.toList.drop a)) :
  Calls Tryz.prog 132 #[.string s, .int .i64 a] w fun e w' => e = .returned (tokVal s a (tokenOf (s.data.toList.drop a)).1 (tokenOf (s.data.toList.drop a)).2) ∧ Below w.heap.size w w' := by
 have hle := run_le 97 122 (s.data.toList.drop a)
 have hto : tokenOf (s.data.toList.drop a) = (run 97 122 (s.data.toList.drop a), wordCl ((s.data.toList.drop a).take (run 97 122 (s.data.toList.drop a))) (run 97 122 (s.data.toList.drop a))) := by unfold tokenOf; rw [if_pos h1]
 have hrow := row_any s a 97 122
 rw [hto]
 simp only [List.length_drop] at hle
 rw [size_list] at hle
 generalize run 97 122 (s.data.toList.drop a) = n at *
 clear hto
 have ham := among_any (bs [108, 101, 116, 32, 112, 97, 105, 114, 32, 102, 115, 116, 32, 115, 110, 100, 32, 105, 102, 32, 97, 100, 100, 32, 115, 117, 98, 32, 108, 101, 115, 115, 32, 108, 111, 111, 112, 32, 110, 101, 119]) (s.extract a (a + n))
 rw [bs_toList, among_kept, ext_of] at ham
 unfold wordCl
 cases hk : kwOf ((s.data.toList.drop a).take n) with
 | some k =>
  rw [hk] at ham
  have hkb := kwOf_some hk
  have hx : s.extract a (a + n) = bs k.bytes := bs_eq (by rw [ext_of, hkb])
  have HX : Hid _ := hx
  clear hk hx hkb
  go_enter Tryz.func132, Tryz.ntmps132
  go_wp2_with (first
   | (go_at_call_of 166 (Value.int IntKind.u8 97); refine (hrow _ (by unfold maxLen; omega) (by omega)).mono ?_; rintro e w' ⟨rfl, rfl⟩)
   | (go_at_call 133; refine (ham _ (by decide)).mono ?_; rintro e w' ⟨rfl, rfl⟩))
  refine bodyPost_ret (v := .agg #[.string (s.extract a (a + n)), .int .i64 a, .string (s.extract a (a + n))]) (by simp [results, Tryz.results132, go_sem]) rfl ⟨?_, (Below.refl _ _).alloc (Nat.le_refl _) _⟩
  unfold tokVal
  simp only [Cl.bytes]
  rw [HX.out]
 | none =>
  rw [hk] at ham
  clear hk
  by_cases h8 : n ≤ 8
  ·go_enter Tryz.func132, Tryz.ntmps132
   go_wp2_with (first
    | (go_at_call_of 166 (Value.int IntKind.u8 97); refine (hrow _ (by unfold maxLen; omega) (by omega)).mono ?_; rintro e w' ⟨rfl, rfl⟩)
    | (go_at_call 133; refine (ham _ (by decide)).mono ?_; rintro e w' ⟨rfl, rfl⟩))
   refine bodyPost_ret (v := .agg #[.string (s.extract a (a + n)), .int .i64 a, .string (bs Cl.nam.bytes)]) (by simp [results, Tryz.results132, go_sem, bs, Cl.bytes]) rfl ⟨?_, (Below.refl _ _).alloc (Nat.le_refl _) _⟩
   first | rfl | simp only [tokVal, if_pos h8]
  ·go_enter Tryz.func132, Tryz.ntmps132
   go_wp2_with (first
    | (go_at_call_of 166 (Value.int IntKind.u8 97); refine (hrow _ (by unfold maxLen; omega) (by omega)).mono ?_; rintro e w' ⟨rfl, rfl⟩)
    | (go_at_call 133; refine (ham _ (by decide)).mono ?_; rintro e w' ⟨rfl, rfl⟩))
   refine bodyPost_ret (v := .agg #[.string (s.extract a (a + n)), .int .i64 a, .string (bs Cl.bad.bytes)]) (by simp [results, Tryz.results132, go_sem, bs, Cl.bytes]) rfl ⟨?_, (Below.refl _ _).alloc (Nat.le_refl _) _⟩
   first | rfl | simp only [tokVal, if_neg h8]
set_option maxHeartbeats 1000000 in
theorem token_digits (s : ByteArray) (a : Nat) (w : World) (hs : s.size ≤ 9000) (ha : a < s.size) (h1 : run 97 122 (s.data.toList.drop a) = 0) (h2 : 0 < run 48 57 (s.data.toList.drop a)) :
  Calls Tryz.prog 132 #[.string s, .int .i64 a] w fun e w' => e = .returned (tokVal s a (tokenOf (s.data.toList.drop a)).1 (tokenOf (s.data.toList.drop a)).2) ∧ Below w.heap.size w w' := by
 have hle := run_le 48 57 (s.data.toList.drop a)
 have hto : tokenOf (s.data.toList.drop a) = (run 48 57 (s.data.toList.drop a), if numeralB ((s.data.toList.drop a).take (run 48 57 (s.data.toList.drop a))) 4 then Cl.num else Cl.bad) := by
  unfold tokenOf; rw [if_neg (by omega), if_pos h2]
 have hrow := row_any s a 97 122
 have hrow2 := row_any s a 48 57
 rw [hto]
 rw [h1] at hrow
 simp only [List.length_drop] at hle
 rw [size_list] at hle
 generalize run 48 57 (s.data.toList.drop a) = n at *
 clear hto h1
 have hnu := numeral_any (s.extract a (a + n)) 4
 rw [ext_of] at hnu
 generalize numeralB ((s.data.toList.drop a).take n) 4 = q at *
 cases q
 all_goals
  go_enter Tryz.func132, Tryz.ntmps132
  go_wp2_with (first
   | (go_at_call_of 166 (Value.int IntKind.u8 97); refine (hrow _ (by unfold maxLen; omega) (by omega)).mono ?_; rintro e w' ⟨rfl, rfl⟩)
   | (go_at_call_of 166 (Value.int IntKind.u8 48); refine (hrow2 _ (by unfold maxLen; omega) (by omega)).mono ?_; rintro e w' ⟨rfl, rfl⟩)
   | (go_at_call 167; refine (hnu _ (by unfold maxLen; simp; omega) (by omega)).mono ?_; rintro e w' ⟨rfl, rfl⟩))
 ·exact bodyPost_ret (v := .agg #[.string (s.extract a (a + n)), .int .i64 a, .string (bs Cl.bad.bytes)]) (by simp [results, Tryz.results132, go_sem, bs, Cl.bytes]) rfl ⟨rfl, (Below.refl _ _).alloc (Nat.le_refl _) _⟩
 ·exact bodyPost_ret (v := .agg #[.string (s.extract a (a + n)), .int .i64 a, .string (bs Cl.num.bytes)]) (by simp [results, Tryz.results132, go_sem, bs, Cl.bytes]) rfl ⟨rfl, (Below.refl _ _).alloc (Nat.le_refl _) _⟩
set_option maxHeartbeats 1000000 in
theorem token_region (s : ByteArray) (a : Nat) (w : World) (hs : s.size ≤ 9000) (ha : a < s.size) (h1 : run 97 122 (s.data.toList.drop a) = 0) (h2 : run 48 57 (s.data.toList.drop a) = 0) (h3 : s[a] = 35) :
  Calls Tryz.prog 132 #[.string s, .int .i64 a] w fun e w' => e = .returned (tokVal s a (tokenOf (s.data.toList.drop a)).1 (tokenOf (s.data.toList.drop a)).2) ∧ Below w.heap.size w w' := by
 have hle := run_le 48 57 (s.data.toList.drop (a + 1))
 have hto : tokenOf (s.data.toList.drop a) = (run 48 57 (s.data.toList.drop (a + 1)) + 1, if numeralB ((s.data.toList.drop (a + 1)).take (run 48 57 (s.data.toList.drop (a + 1)))) 3 then Cl.reg else Cl.bad) := by
  unfold tokenOf; rw [if_neg (by omega), if_neg (by omega), drop_cons s a ha]; simp only [h3]; rfl
 have hrow := row_any s a 97 122
 have hrow2 := row_any s a 48 57
 have hrow3 := row_any s (a + 1) 48 57
 rw [hto]
 rw [h1] at hrow
 rw [h2] at hrow2
 have h3' : ((s[a].toNat : Int) == 35) = true := by rw [h3]; rfl
 simp only [List.length_drop] at hle
 rw [size_list] at hle
 generalize run 48 57 (s.data.toList.drop (a + 1)) = n at *
 clear hto h1 h2 h3
 have hnu := numeral_any (s.extract (a + 1) (a + 1 + n)) 3
 rw [ext_of] at hnu
 generalize numeralB ((s.data.toList.drop (a + 1)).take n) 3 = q at *
 have e1 : ((a + 1 : Nat) : Int) = (a : Int) + 1 := by omega
 rw [e1] at hrow3
 have e2 : a + (n + 1) = a + 1 + n := by omega
 unfold tokVal
 rw [e2]
 cases q
 all_goals
  go_enter Tryz.func132, Tryz.ntmps132
  go_wp2_with (first
   | (go_at_call_of 166 (Value.int IntKind.u8 97); refine (hrow _ (by unfold maxLen; omega) (by omega)).mono ?_; rintro e w' ⟨rfl, rfl⟩)
   | (go_at_call_of 166 (Value.int IntKind.i64 (a : Int)); refine (hrow2 _ (by unfold maxLen; omega) (by omega)).mono ?_; rintro e w' ⟨rfl, rfl⟩)
   | (go_at_call_of 166 (Value.int IntKind.u8 48); refine (hrow3 _ (by unfold maxLen; omega) (by omega)).mono ?_; rintro e w' ⟨rfl, rfl⟩)
   | (go_at_call 167; refine (hnu _ (by unfold maxLen; simp; omega) (by omega)).mono ?_; rintro e w' ⟨rfl, rfl⟩))
 ·exact bodyPost_ret (v := .agg #[.string (s.extract a (a + 1 + n)), .int .i64 a, .string (bs Cl.bad.bytes)]) (by simp [results, Tryz.results132, go_sem, bs, Cl.bytes]) rfl ⟨rfl, (Below.refl _ _).alloc (Nat.le_refl _) _⟩
 ·exact bodyPost_ret (v := .agg #[.string (s.extract a (a + 1 + n)), .int .i64 a, .string (bs Cl.reg.bytes)]) (by simp [results, Tryz.results132, go_sem, bs, Cl.bytes]) rfl ⟨rfl, (Below.refl _ _).alloc (Nat.le_refl _) _⟩
theorem ext_one (s : ByteArray) (a : Nat) (ha : a < s.size) : (s.extract a (a + 1)).toList = [s[a]] := by
 rw [Lib.toList_data, ext_of, drop_cons s a ha]; rfl
set_option maxHeartbeats 1000000 in
theorem token_else (s : ByteArray) (a : Nat) (w : World) (hs : s.size ≤ 9000) (ha : a < s.size) (h1 : run 97 122 (s.data.toList.drop a) = 0) (h2 : run 48 57 (s.data.toList.drop a) = 0) (h3 : ¬ s[a] = 35) :
  Calls Tryz.prog 132 #[.string s, .int .i64 a] w fun e w' => e = .returned (tokVal s a (tokenOf (s.data.toList.drop a)).1 (tokenOf (s.data.toList.drop a)).2) ∧ Below w.heap.size w w' := by
 have hto : tokenOf (s.data.toList.drop a) = (1, if s[a] = 40 then Cl.opn else if s[a] = 41 then Cl.cls else Cl.bad) := by
  unfold tokenOf; rw [if_neg (by omega), if_neg (by omega), drop_cons s a ha]; simp only [if_neg h3]
 have hrow := row_any s a 97 122
 have hrow2 := row_any s a 48 57
 rw [hto]
 rw [h1] at hrow
 rw [h2] at hrow2
 have h3' : ((s[a].toNat : Int) == 35) = false := by have : ((s[a].toNat : Int) == 35) = (s[a] == 35) := byte_eq s[a] 35; rw [this]; simpa using h3
 have hx := ext_one s a ha
 have hx' : (s.extract a (a + 1)).data.toList = [s[a]] := by rw [← Lib.toList_data, hx]
 have HX : Hid _ := hx'
 unfold tokVal
 clear hto h1 h2 h3 hx'
 by_cases c1 : s[a] = 40
 ·have t1 : ((s.extract a (a + 1)).toList == [40]) = true := by rw [hx, c1]; rfl
  have H1 : Hid _ := c1
  clear hx c1
  go_enter Tryz.func132, Tryz.ntmps132
  go_wp2_with (first
   | (go_at_call_of 166 (Value.int IntKind.u8 97); refine (hrow _ (by unfold maxLen; omega) (by omega)).mono ?_; rintro e w' ⟨rfl, rfl⟩)
   | (go_at_call_of 166 (Value.int IntKind.u8 48); refine (hrow2 _ (by unfold maxLen; omega) (by omega)).mono ?_; rintro e w' ⟨rfl, rfl⟩))
  refine bodyPost_ret (v := .agg #[.string (s.extract a (a + 1)), .int .i64 a, .string (s.extract a (a + 1))]) (by simp [results, Tryz.results132, go_sem]) rfl ⟨?_, (Below.refl _ _).alloc (Nat.le_refl _) _⟩
  try rw [if_pos H1.out]
  have : s.extract a (a + 1) = bs Cl.opn.bytes := bs_eq (by rw [HX.out, H1.out]; rfl)
  rw [this]
 ·by_cases c2 : s[a] = 41
  ·have t1 : ((s.extract a (a + 1)).toList == [40]) = false := by rw [hx, c2]; rfl
   have t2 : ((s.extract a (a + 1)).toList == [41]) = true := by rw [hx, c2]; rfl
   have H1 : Hid _ := c1
   have H2 : Hid _ := c2
   clear hx c1 c2
   go_enter Tryz.func132, Tryz.ntmps132
   go_wp2_with (first
    | (go_at_call_of 166 (Value.int IntKind.u8 97); refine (hrow _ (by unfold maxLen; omega) (by omega)).mono ?_; rintro e w' ⟨rfl, rfl⟩)
    | (go_at_call_of 166 (Value.int IntKind.u8 48); refine (hrow2 _ (by unfold maxLen; omega) (by omega)).mono ?_; rintro e w' ⟨rfl, rfl⟩))
   refine bodyPost_ret (v := .agg #[.string (s.extract a (a + 1)), .int .i64 a, .string (s.extract a (a + 1))]) (by simp [results, Tryz.results132, go_sem]) rfl ⟨?_, (Below.refl _ _).alloc (Nat.le_refl _) _⟩
   try rw [if_neg H1.out, if_pos H2.out]
   have : s.extract a (a + 1) = bs Cl.cls.bytes := bs_eq (by rw [HX.out, H2.out]; rfl)
   rw [this]
  ·have t1 : ((s.extract a (a + 1)).toList == [40]) = false := by rw [hx]; simpa using c1
   have t2 : ((s.extract a (a + 1)).toList == [41]) = false := by rw [hx]; simpa using c2
   have H1 : Hid _ := c1
   have H2 : Hid _ := c2
   clear hx c1 c2
   go_enter Tryz.func132, Tryz.ntmps132
   go_wp2_with (first
    | (go_at_call_of 166 (Value.int IntKind.u8 97); refine (hrow _ (by unfold maxLen; omega) (by omega)).mono ?_; rintro e w' ⟨rfl, rfl⟩)
    | (go_at_call_of 166 (Value.int IntKind.u8 48); refine (hrow2 _ (by unfold maxLen; omega) (by omega)).mono ?_; rintro e w' ⟨rfl, rfl⟩))
   refine bodyPost_ret (v := .agg #[.string (s.extract a (a + 1)), .int .i64 a, .string (bs Cl.bad.bytes)]) (by simp [results, Tryz.results132, go_sem, bs, Cl.bytes]) rfl ⟨?_, (Below.refl _ _).alloc (Nat.le_refl _) _⟩
   first | rfl | rw [if_neg H1.out, if_neg H2.out]
theorem token_any (s : ByteArray) (a : Nat) (w : World) (hs : s.size ≤ 9000) (ha : a < s.size) :
  Calls Tryz.prog 132 #[.string s, .int .i64 a] w fun e w' => e = .returned (tokVal s a (tokenOf (s.data.toList.drop a)).1 (tokenOf (s.data.toList.drop a)).2) ∧ Below w.heap.size w w' := by
 by_cases h1 : 0 < run 97 122 (s.data.toList.drop a)
 ·exact token_word s a w hs ha h1
 ·by_cases h2 : 0 < run 48 57 (s.data.toList.drop a)
  ·exact token_digits s a w hs ha (by omega) h2
  ·by_cases h3 : s[a] = 35
   ·exact token_region s a w hs ha (by omega) (by omega) h3
   ·exact token_else s a w hs ha (by omega) (by omega) h3
def tkCells (t : Tk) : List Value := [.string (bs t.s), .int .i64 t.at_, .string (bs t.c.bytes)]
theorem Tryz.infoTok : (Tryz.prog.info? 177).map (fun i => (i.zero, i.size, i.bytes)) = some (some (.agg #[.string ⟨#[]⟩, .int .i64 0, .string ⟨#[]⟩]), 3, 40) := by kernel_rfl
theorem Tryz.undToks : Tryz.prog.underlying 174 = some (.slice 177) := by kernel_rfl
theorem toks_step_blank (s : ByteArray) (k : Nat) (hk : k < s.size) (h : blankB s[k] = true) : toks (s.size - k) k (s.data.toList.drop k) = toks (s.size - (k + 1)) (k + 1) (s.data.toList.drop (k + 1)) := by
 rw [drop_cons s k hk, show s.size - k = (s.size - (k + 1)) + 1 from by omega, toks_blank _ _ _ _ h]
def tkAt (s : ByteArray) (k : Nat) : Tk := ⟨(s.data.toList.drop k).take (tokenOf (s.data.toList.drop k)).1, k, (tokenOf (s.data.toList.drop k)).2⟩
theorem toks_step_tok (s : ByteArray) (k : Nat) (hk : k < s.size) (h : blankB s[k] = false) :
  toks (s.size - k) k (s.data.toList.drop k) = tkAt s k :: toks (s.size - (k + (tokenOf (s.data.toList.drop k)).1)) (k + (tokenOf (s.data.toList.drop k)).1) (s.data.toList.drop (k + (tokenOf (s.data.toList.drop k)).1)) := by
 have hp := tokenOf_pos (s.data.toList.drop k)
 have e : toks (s.size - k) k (s.data.toList.drop k) = tkAt s k :: toks (s.size - (k + 1)) (k + (tokenOf (s.data.toList.drop k)).1) ((s.data.toList.drop k).drop (tokenOf (s.data.toList.drop k)).1) := by
  unfold tkAt
  rw [drop_cons s k hk]
  conv => lhs; rw [show s.size - k = (s.size - (k + 1)) + 1 from by omega]
  rw [toks_tok _ _ _ _ h]
 rw [e, List.drop_drop]
 congr 1
 apply toks_fuel
 ·simp; omega
 ·simp
theorem tokVal_cells (s : ByteArray) (k : Nat) : tokVal s k (tokenOf (s.data.toList.drop k)).1 (tokenOf (s.data.toList.drop k)).2 = .agg #[.string (bs (tkAt s k).s), .int .i64 k, .string (bs (tkAt s k).c.bytes)] := by
 unfold tokVal
 rw [bs_eq (ext_of s k (tokenOf (s.data.toList.drop k)).1)]
 rfl
theorem grown_of_below {w w' : World} (h : Below w.heap.size w w') (row : Option Nat) : w.grownBy w' row := ⟨h.os, h.tape, h.output, h.size, fun k hk _ => h.block k hk⟩
theorem owns_below {w w' : World} {base : Nat} {e : TypeId} {size : Nat} {v : Value} {n : Nat} {xs : List Value} (h : w.ownsRow base e size v n xs) (hb : Below w.heap.size w w') : w'.ownsRow base e size v n xs := by
 refine h.kept (grown_of_below hb none) ?_
 cases v.ownBlock <;> simp
theorem owns_ne {w : World} {base : Nat} {e : TypeId} {size : Nat} {v : Value} {n : Nat} {xs : List Value} (h : w.ownsRow base e size v n xs) {b : Nat} (hb : w.heap.size ≤ b) : some b ≠ v.ownBlock := by
 intro e; have := h.lt b e.symm; omega
theorem bs_size (l : List UInt8) : (bs l).size = l.length := by show l.toArray.size = l.length; simp
theorem tkAt_len (s : ByteArray) (k : Nat) (hk : k < s.size) : (tkAt s k).s.length = (tokenOf (s.data.toList.drop k)).1 := by
 have := tokenOf_le (s.data.toList.drop k) (by rw [drop_cons s k hk]; simp)
 unfold tkAt
 simp only [List.length_take]; omega
set_option maxRecDepth 100000 in
set_option maxHeartbeats 1000000 in
theorem Tokens_any (s : ByteArray) (w : World) (hs : s.size ≤ 9000) :
  Calls Tryz.prog 100 #[.string s] w fun e w' => ∃ v, e = .returned v ∧ w'.ownsRow w.heap.size 177 3 v (tokens s.data.toList).length ((tokens s.data.toList).flatMap tkCells) ∧ Below w.heap.size w w' := by
 obtain ⟨i0, hi, hz0, hz1, hz2⟩ := info_parts Tryz.infoTok
 have HI : Hid _ := hi
 have HZ0 : Hid _ := hz0
 have HZ1 : Hid _ := hz1
 have HZ2 : Hid _ := hz2
 clear hi hz0 hz1 hz2
 go_enter Tryz.func100, Tryz.ntmps100
 go_wp2
 go_loopw [3, 4] (fun v i wr => ∃ (k : Nat) (pre : List Tk), k ≤ s.size ∧ i = .int .i64 k ∧ wr.ownsRow w.heap.size 177 3 v pre.length (pre.flatMap tkCells) ∧ Below w.heap.size w wr ∧ pre.length ≤ k ∧
   tokens s.data.toList = pre ++ toks (s.size - k) k (s.data.toList.drop k)) (fun _ i _ => s.size - (intOf i).toNat)
 case atStart => exact ⟨0, [], by omega, rfl, World.ownsRow_nil _ _ _ _, Below.refl _ _, by simp, by simp [tokens]⟩
 case round =>
  obtain ⟨k, pre, hk, rfl, hown, hbel, hpk, hall⟩ := hrel
  have HA : Hid _ := hall
  have HO : Hid (wr.ownsRow w.heap.size 177 3 _ pre.length (pre.flatMap tkCells)) := hown
  have hsz := hbel.size
  clear hall hown
  by_cases hlt : k < s.size
  ·by_cases hb : blankB s[k] = true
   ·have HS : Hid _ := toks_step_blank s k hlt hb
    have hb' : ((s[k].toNat : Int) == 32) = true ∨ ((s[k].toNat : Int) == 32) = false ∧ ((s[k].toNat : Int) == 10) = true := by
     have e1 : ((s[k].toNat : Int) == 32) = (s[k] == 32) := byte_eq s[k] 32
     have e2 : ((s[k].toNat : Int) == 10) = (s[k] == 10) := byte_eq s[k] 10
     rw [e1, e2]; unfold blankB at hb; cases h : s[k] == 32 <;> simp_all
    clear hb
    rcases hb' with hb | ⟨hb1, hb2⟩
    all_goals
     go_wp2
     go_roundw
     case rel => exact ⟨k + 1, pre, by omega, by go_num, HO.out, hbel, by omega, by rw [HA.out, HS.out]⟩
     case measure => simp [intOf]; omega
   ·have hb0 : blankB s[k] = false := by simpa using hb
    have HS : Hid _ := toks_step_tok s k hlt hb0
    have hb1 : ((s[k].toNat : Int) == 32) = false := by
     have e1 : ((s[k].toNat : Int) == 32) = (s[k] == 32) := byte_eq s[k] 32
     rw [e1]; unfold blankB at hb0; simp_all
    have hb2 : ((s[k].toNat : Int) == 10) = false := by
     have e1 : ((s[k].toNat : Int) == 10) = (s[k] == 10) := byte_eq s[k] 10
     rw [e1]; unfold blankB at hb0; simp_all
    have htk := token_any s k
    rw [tokVal_cells] at htk
    have hlen := tkAt_len s k hlt
    have hpos := tokenOf_pos (s.data.toList.drop k)
    have hle := tokenOf_le (s.data.toList.drop k) (by rw [drop_cons s k hlt]; simp)
    rw [List.length_drop, size_list] at hle
    obtain ⟨t, ht⟩ : ∃ t, t = tkAt s k := ⟨_, rfl⟩
    rw [← ht] at htk hlen
    have HT : Hid _ := ht
    have htat : t.at_ = k := by rw [ht]; rfl
    have HTA : Hid _ := htat
    obtain ⟨n, hn⟩ : ∃ n, n = (tokenOf (s.data.toList.drop k)).1 := ⟨_, rfl⟩
    rw [← hn] at hlen hpos hle
    have HN : Hid _ := hn
    have HLEN : Hid _ := hlen
    have hbz : (bs t.s).size = n := by rw [bs_size, hlen]
    clear hb hb0 ht hn hlen htat
    go_wp2_with (first
     | (go_at_call 132; refine (htk _ hs hlt).mono ?_; rintro e w1 ⟨rfl, hb1⟩)
     | (at_builtin; go_must (refine wpList_append_own _ rfl (.tmp 25) (.tmp 27) 174 rfl w.heap.size 177 i0 _ 3 40 Tryz.undToks HI.out HZ0.out HZ1.out HZ2.out rfl (by decide) _ pre.length (pre.flatMap tkCells) rfl ?own ⟨w1.heap.size + 1, 0, none⟩ 1 1 (tkCells t) rfl rfl ?c1 ?c2 ?c3 ?c4 ?c5 ?_)))
    case own => exact ((owns_below HO.out hb1).alloc _).alloc _
    case c1 =>
     intro j u hj
     match j, hj with
     | 0, hj => simp [tkCells] at hj; subst hj; simp [Addr.add]
     | 1, hj => simp [tkCells, HTA.out] at hj; subst hj; simp [Addr.add]
     | 2, hj => simp [tkCells] at hj; subst hj; simp [Addr.add]
     | j + 3, hj => simp [tkCells] at hj
    case c2 => intro u hu; simp [tkCells] at hu; rcases hu with rfl | rfl | rfl <;> rfl
    case c3 => unfold maxLen; omega
    case c4 => omega
    case c5 => have := hb1.size; simp; omega
    ·intro v' w2 hown' hgrow _
     have hsz1 := hb1.size
     have hbel2 : Below w.heap.size w w2 := by
      refine (((hbel.trans (hb1.mono hsz)).alloc (by omega) _).alloc (by simp; omega) _).grown hgrow (by simp; omega) ?_
      intro b hb
      exact (World.ownsRow.lt HO.out b hb).1
     have hcell : w2.cell? ⟨w1.heap.size, 0, none⟩ = some (.string (bs t.s)) :=
      hgrow.cell (by simp) (owns_ne HO.out hsz1)
     have HO2 : Hid (w2.ownsRow w.heap.size 177 3 v' (pre.length + 1) (pre.flatMap tkCells ++ tkCells t)) := hown'
     have HB2 : Hid _ := hbel2
     clear hown' hgrow hbel2 hbel hb1
     go_wp2
     go_roundw
     case rel =>
      refine ⟨k + n, pre ++ [t], by omega, by first | go_num | (rw [hbz]; go_num), ?_, HB2.out, by simp; omega, ?_⟩
      ·have e1 : (pre ++ [t]).length = pre.length + 1 := by simp
       have e2 : (pre ++ [t]).flatMap tkCells = pre.flatMap tkCells ++ tkCells t := by simp
       rw [e1, e2]; exact HO2.out
      ·rw [HA.out, HS.out]; rw [HN.out, HT.out]; simp
     case measure => simp [intOf]; omega
  ·go_wp2
   go_ret
   exact ⟨_, rfl, by rw [HA.out, drop_end s k (by omega)]; have : toks (s.size - k) k [] = [] := by cases s.size - k <;> rfl
                     rw [this, List.append_nil]; exact HO.out, hbel⟩
def wtVal (x : Wt) : Value := .string (bs x.bytes)
theorem Tryz.undStrs : Tryz.prog.underlying 68 = some (.slice 9) := by kernel_rfl
theorem Tryz.infoStr : (Tryz.prog.info? 9).map (fun i => (i.zero, i.size, i.bytes)) = some (some (.string ⟨#[]⟩), 1, 16) := by kernel_rfl
theorem bs_beq (l m : List UInt8) : ((bs l).toList == m) = (l == m) := by rw [Lib.toList_data]; rfl
set_option maxRecDepth 100000 in
set_option maxHeartbeats 4000000 in
theorem wants_any (c : Cl) (placed : Bool) (w : World) :
  Calls Tryz.prog 101 #[.string (bs c.bytes), .bool placed] w fun e w' =>
   (wantsC c placed = [] ∧ e = .returned (.slice none 0 0) ∧ w' = w) ∨
   (wantsC c placed ≠ [] ∧ e = .returned (.slice (some ⟨w.heap.size, 0, none⟩) (wantsC c placed).length (wantsC c placed).length) ∧ w' = w.alloc (.cells (((wantsC c placed).map wtVal).reverse).toArray 9)) := by
 have ham1 := among_any ⟨#[112, 97, 105, 114, 32, 97, 100, 100, 32, 115, 117, 98, 32, 108, 101, 115, 115]⟩ (bs c.bytes)
 have ham2 := among_any ⟨#[102, 115, 116, 32, 115, 110, 100]⟩ (bs c.bytes)
 have hse := bs_beq
 rcases c with _ | _ | _ | _ | _ | _ | k
 case kw =>
  cases k <;> cases placed
  all_goals
   simp only [Cl.bytes, Kw.bytes] at ham1 ham2 ⊢
   go_enter Tryz.func101, Tryz.ntmps101
   go_wp2_with (first
    | (go_at_call_of 133 (Value.string { data := #[112, 97, 105, 114, 32, 97, 100, 100, 32, 115, 117, 98, 32, 108, 101, 115, 115] }); refine (ham1 _ (by decide)).mono ?_; rintro e w' ⟨rfl, rfl⟩)
    | (go_at_call_of 133 (Value.string { data := #[102, 115, 116, 32, 115, 110, 100] }); refine (ham2 _ (by decide)).mono ?_; rintro e w' ⟨rfl, rfl⟩))
   go_ret
   first | exact Or.inr ⟨by decide, rfl, rfl⟩ | exact Or.inl ⟨rfl, rfl, rfl⟩
 all_goals
  cases placed
  all_goals
   simp only [Cl.bytes] at ham1 ham2 ⊢
   go_enter Tryz.func101, Tryz.ntmps101
   go_wp2_with (first
    | (go_at_call_of 133 (Value.string { data := #[112, 97, 105, 114, 32, 97, 100, 100, 32, 115, 117, 98, 32, 108, 101, 115, 115] }); refine (ham1 _ (by decide)).mono ?_; rintro e w' ⟨rfl, rfl⟩)
    | (go_at_call_of 133 (Value.string { data := #[102, 115, 116, 32, 115, 110, 100] }); refine (ham2 _ (by decide)).mono ?_; rintro e w' ⟨rfl, rfl⟩))
   go_ret
   exact Or.inl ⟨rfl, rfl, rfl⟩
def formInt (o : Option Nat) : Int := match o with
 | some p => p
 | none => -1
theorem cl_beq (c d : Cl) : ((bs c.bytes).toList == d.bytes) = decide (c = d) := by
 rw [bs_beq]
 rcases c with _ | _ | _ | _ | _ | _ | k <;> rcases d with _ | _ | _ | _ | _ | _ | k' <;> first | decide | (cases k <;> decide) | (cases k' <;> decide) | (cases k <;> cases k' <;> decide)
theorem tk_cell (ts : List Tk) (k : Nat) (t : Tk) (h : ts[k]? = some t) (j : Nat) (hj : j < 3) : (ts.flatMap tkCells)[k * 3 + j]? = (tkCells t)[j]? := by
 induction ts generalizing k with
 | nil => simp at h
 | cons a r ih =>
  cases k with
  | zero =>
   simp at h; subst h
   rw [List.flatMap_cons, List.getElem?_append_left (by simp [tkCells]; omega)]; simp
  | succ k =>
   simp at h
   rw [List.flatMap_cons, List.getElem?_append_right (by simp [tkCells]; omega)]
   have : (k + 1) * 3 + j - (tkCells a).length = k * 3 + j := by simp [tkCells]; omega
   rw [this]; exact ih k h
theorem alloc_cell_at (w : World) (l : List Value) (e : TypeId) (j : Nat) : (w.alloc (.cells l.toArray e)).cell? (Addr.add ⟨w.heap.size, 0, none⟩ j) = l[j]? := by
 rcases j with _ | j <;> simp [Addr.add]
theorem wants_no (c : Cl) (placed : Bool) (w : World) (h : wantsC c placed = []) :
  Calls Tryz.prog 101 #[.string (bs c.bytes), .bool placed] w fun e w' => e = .returned (.slice none 0 0) ∧ w' = w := by
 refine (wants_any c placed w).mono ?_
 rintro e w' (⟨_, h1, h2⟩ | ⟨h0, _⟩)
 ·exact ⟨h1, h2⟩
 ·exact absurd h h0
theorem wants_yes (c : Cl) (placed : Bool) (w : World) (h : wantsC c placed ≠ []) :
  Calls Tryz.prog 101 #[.string (bs c.bytes), .bool placed] w fun e w' => e = .returned (.slice (some ⟨w.heap.size, 0, none⟩) (wantsC c placed).length (wantsC c placed).length) ∧ w' = w.alloc (.cells (((wantsC c placed).map wtVal).reverse).toArray 9) := by
 refine (wants_any c placed w).mono ?_
 rintro e w' (⟨h0, _⟩ | ⟨_, h1, h2⟩)
 ·exact absurd h0 h
 ·exact ⟨h1, h2⟩
set_option maxRecDepth 100000 in
set_option maxHeartbeats 4000000 in
theorem Form_any (s : ByteArray) (placed : Bool) (w : World) (hs : s.size ≤ 9000) :
  Calls Tryz.prog 60 #[.string s, .bool placed] w fun e w' => e = .returned (.int .i64 (formInt (formOf placed s.data.toList))) ∧ Below w.heap.size w w' := by
 obtain ⟨i0, hi, hz0, hz1, hz2⟩ := info_parts Tryz.infoStr
 have HI : Hid _ := hi
 have HZ0 : Hid _ := hz0
 have HZ1 : Hid _ := hz1
 have HZ2 : Hid _ := hz2
 clear hi hz0 hz1 hz2
 have htk := Tokens_any s
 unfold formOf
 rw [size_list]
 obtain ⟨ts, hts⟩ : ∃ ts, ts = tokens s.data.toList := ⟨_, rfl⟩
 have htl : ts.length ≤ s.size := by rw [hts]; have := toks_len s.data.toList.length 0 s.data.toList; rw [size_list] at this; unfold tokens; rw [size_list]; exact this
 rw [← hts] at htk ⊢
 clear hts
 go_enter Tryz.func60, Tryz.ntmps60
 go_wp2_with (first
  | (go_at_call 100; refine (htk _ hs).mono ?_; rintro e w1 ⟨tv, rfl, htown, htb⟩))
 have HTO : Hid (w1.ownsRow w.heap.size 177 3 tv ts.length (ts.flatMap tkCells)) := htown
 have HTB : Hid _ := htb
 have hw1 := htb.size
 clear htown htb htk
 obtain ⟨ta, tn, tc, htv, htn⟩ : ∃ ta tn tc, tv = .slice ta tn tc ∧ tn = ts.length := by
  rcases HTO.out.2 with ⟨h, h'⟩ | ⟨g, cap, cur, h, _⟩
  ·exact ⟨_, _, _, h, h'.symm⟩
  ·exact ⟨_, _, _, h, rfl⟩
 subst htn
 rw [htv]
 have HTV : Hid _ := htv
 clear htv
 go_loopw [6, 7] (fun v i wr => ∃ (k : Nat) (pile : List Wt) (g cap : Nat), k ≤ ts.length ∧ i = .int .i64 k ∧ v = .slice (some ⟨g, 0, none⟩) pile.length cap ∧
   wr.ownsRow w1.heap.size 9 1 (.slice (some ⟨g, 0, none⟩) pile.length cap) pile.length ((pile.map wtVal).reverse) ∧ Below w1.heap.size w1 wr ∧ pile.length ≤ 5 * k + 1 ∧
   formRun placed s.size ts [.e] = formRun placed s.size (ts.drop k) pile) (fun _ i _ => ts.length - (intOf i).toNat)
 case atStart =>
  refine ⟨0, [.e], w1.heap.size, 1, by omega, rfl, rfl, ?_, ?_, by simp, by simp⟩
  ·refine ⟨rfl, Or.inr ⟨w1.heap.size, 1, #[wtVal .e], rfl, Nat.le_refl _, ?_, by simp, by decide, rfl, rfl⟩⟩
   show (w1.heap.push _)[w1.heap.size]? = _; simp [wtVal, Wt.bytes, bs]
  ·exact (Below.refl _ _).alloc (Nat.le_refl _) _
 case round =>
  obtain ⟨k, pile, g, cap, hk, rfl, rfl, hown, hbel, hpl, hall⟩ := hrel
  have HA : Hid _ := hall
  have HO : Hid (wr.ownsRow w1.heap.size 9 1 (.slice (some ⟨g, 0, none⟩) pile.length cap) pile.length ((pile.map wtVal).reverse)) := hown
  have HB : Hid _ := hbel
  have hsz := hbel.size
  clear hall hown hbel
  by_cases hlt : k < ts.length
  ·obtain ⟨t, ht⟩ : ∃ t, ts[k]? = some t := ⟨ts[k], List.getElem?_eq_getElem hlt⟩
   obtain ⟨gt, hgt⟩ : ∃ gt, ta = some ⟨gt, 0, none⟩ := by
    have h := HTO.out.2
    rw [HTV.out] at h
    rcases h with ⟨h, h'⟩ | ⟨g, cap, cur, h, _⟩
    ·omega
    ·simp only [Value.slice.injEq] at h; exact ⟨_, h.1⟩
   have hcw : ∀ j, j < 3 → w1.cell? ⟨gt, k * 3 + j, none⟩ = (tkCells t)[j]? := by
    intro j hj
    have h : w1.ownsRow w.heap.size 177 3 (.slice (some ⟨gt, 0, none⟩) ts.length tc) ts.length (ts.flatMap tkCells) := by rw [← hgt, ← HTV.out]; exact HTO.out
    rw [h.cellAt (k * 3 + j) (by omega)]
    exact tk_cell ts k t ht j hj
   have hgtw : gt < w1.heap.size := (HTO.out.lt gt (by rw [HTV.out, hgt]; rfl)).2
   subst hgt
   have hcl : ∀ j, j < 3 → wr.cell? ⟨gt, k * 3 + j, none⟩ = (tkCells t)[j]? := fun j hj => (HB.out.cell (p := ⟨gt, k * 3 + j, none⟩) hgtw).trans (hcw j hj)
   have hc1 : wr.cell? ⟨gt, k * 3 + 1, none⟩ = some (.int .i64 t.at_) := hcl 1 (by omega)
   have hc2 : wr.cell? ⟨gt, k * 3 + 2, none⟩ = some (.string (bs t.c.bytes)) := hcl 2 (by omega)
   have hd : ts.drop k = t :: ts.drop (k + 1) := by rw [List.drop_eq_getElem_cons hlt]; rw [List.getElem?_eq_getElem hlt] at ht; simp only [Option.some.injEq] at ht; rw [ht]
   have HD : Hid _ := hd
   clear hcl hcw ht hd
   cases pile with
   | nil => 
    simp only [List.length_nil] at *
    go_wp2
    go_ret
    exact ⟨ret_int (by rw [HA.out, HD.out]; simp [formRun, formInt]), (HTB.out.trans (HB.out.mono hw1))⟩
   | cons x p => 
    have hpc : wr.cell? ⟨g, p.length, none⟩ = some (wtVal x) := by
     rw [HO.out.cellAt p.length (by simp)]; simp
    have HO2 : Hid (wr.ownsRow w1.heap.size 9 1 (.slice (some ⟨g, 0, none⟩) p.length cap) p.length ((p.map wtVal).reverse)) := by
     refine ownsRow_pop (last := [wtVal x]) (by simp) ?_
     have := HO.out; simpa using this
    have hpcap : p.length + 1 ≤ cap := by
     rcases HO.out.2 with ⟨h, h'⟩ | ⟨g', cap', cur, h, _, _, h3, _⟩
     ·simp at h'
     ·simp only [Value.slice.injEq] at h; simp at h3; omega
    simp only [List.length_cons] at *
    cases x with
    | close =>
     simp only [wtVal, Wt.bytes] at hpc
     have q1 : ((bs [41]).toList == [101]) = false := by rw [bs_beq]; decide
     have q2 : ((bs [41]).toList == [119, 111, 114, 100]) = false := by rw [bs_beq]; decide
     have hq : ((bs t.c.bytes).toList == (bs [41]).toList) = decide (t.c = Cl.cls) := by
      have := cl_beq t.c Cl.cls
      rw [Lib.toList_data (bs [41])]; exact this
     by_cases hc : t.c = Cl.cls
     ·rw [decide_eq_true hc] at hq
      have HC : Hid _ := hc
      clear hc
      go_wp2
      go_roundw
      case rel => exact ⟨k + 1, p, g, cap, by omega, by go_num, rfl, HO2.out, HB.out, by omega, by rw [HA.out, HD.out]; simp only [formRun]; rw [if_pos HC.out]⟩
      case measure => simp [intOf]; omega
     ·rw [decide_eq_false hc] at hq
      have HC : Hid _ := hc
      clear hc
      go_wp2
      go_ret
      exact ⟨ret_int (by rw [HA.out, HD.out]; simp only [formRun]; rw [if_neg HC.out]; rfl), (HTB.out.trans (HB.out.mono hw1))⟩
    | name =>
     simp only [wtVal, Wt.bytes] at hpc
     have q1 : ((bs [78, 65, 77, 69]).toList == [101]) = false := by rw [bs_beq]; decide
     have q2 : ((bs [78, 65, 77, 69]).toList == [119, 111, 114, 100]) = false := by rw [bs_beq]; decide
     have hq : ((bs t.c.bytes).toList == (bs [78, 65, 77, 69]).toList) = decide (t.c = Cl.nam) := by
      have := cl_beq t.c Cl.nam
      rw [Lib.toList_data (bs [78, 65, 77, 69])]; exact this
     by_cases hc : t.c = Cl.nam
     ·rw [decide_eq_true hc] at hq
      have HC : Hid _ := hc
      clear hc
      go_wp2
      go_roundw
      case rel => exact ⟨k + 1, p, g, cap, by omega, by go_num, rfl, HO2.out, HB.out, by omega, by rw [HA.out, HD.out]; simp only [formRun]; rw [if_pos HC.out]⟩
      case measure => simp [intOf]; omega
     ·rw [decide_eq_false hc] at hq
      have HC : Hid _ := hc
      clear hc
      go_wp2
      go_ret
      exact ⟨ret_int (by rw [HA.out, HD.out]; simp only [formRun]; rw [if_neg HC.out]; rfl), (HTB.out.trans (HB.out.mono hw1))⟩
    | region =>
     simp only [wtVal, Wt.bytes] at hpc
     have q1 : ((bs [82, 69, 71, 73, 79, 78]).toList == [101]) = false := by rw [bs_beq]; decide
     have q2 : ((bs [82, 69, 71, 73, 79, 78]).toList == [119, 111, 114, 100]) = false := by rw [bs_beq]; decide
     have hq : ((bs t.c.bytes).toList == (bs [82, 69, 71, 73, 79, 78]).toList) = decide (t.c = Cl.reg) := by
      have := cl_beq t.c Cl.reg
      rw [Lib.toList_data (bs [82, 69, 71, 73, 79, 78])]; exact this
     by_cases hc : t.c = Cl.reg
     ·rw [decide_eq_true hc] at hq
      have HC : Hid _ := hc
      clear hc
      go_wp2
      go_roundw
      case rel => exact ⟨k + 1, p, g, cap, by omega, by go_num, rfl, HO2.out, HB.out, by omega, by rw [HA.out, HD.out]; simp only [formRun]; rw [if_pos HC.out]⟩
      case measure => simp [intOf]; omega
     ·rw [decide_eq_false hc] at hq
      have HC : Hid _ := hc
      clear hc
      go_wp2
      go_ret
      exact ⟨ret_int (by rw [HA.out, HD.out]; simp only [formRun]; rw [if_neg HC.out]; rfl), (HTB.out.trans (HB.out.mono hw1))⟩
    | e =>
     simp only [wtVal, Wt.bytes] at hpc
     have q1 : ((bs [101]).toList == [101]) = true := by rw [bs_beq]; decide
     have o1 : ((bs t.c.bytes).toList == [40]) = decide (t.c = .opn) := cl_beq t.c .opn
     have o2 : ((bs t.c.bytes).toList == [78, 85, 77, 66, 69, 82]) = decide (t.c = .num) := cl_beq t.c .num
     have o3 : ((bs t.c.bytes).toList == [78, 65, 77, 69]) = decide (t.c = .nam) := cl_beq t.c .nam
     by_cases h1 : t.c = .opn
     ·rw [decide_eq_true h1] at o1
      have HC : Hid _ := h1
      clear h1 o2 o3
      go_wp2_with (at_builtin; refine wpList_append_own _ rfl (.tmp 57) (.tmp 58) 68 rfl w1.heap.size 9 i0 _ 1 16 Tryz.undStrs HI.out HZ0.out HZ1.out HZ2.out rfl (by decide) _ p.length ((p.map wtVal).reverse) rfl (HO2.out.alloc _) ⟨wr.heap.size, 0, none⟩ 1 1 [wtVal .word] rfl rfl ?d1 ?d2 ?d3 ?d4 ?d5 ?_)
      case d1 =>
       intro j u hj
       match j, hj with
       | 0, hj => simp at hj; subst hj; simp [Addr.add, wtVal, Wt.bytes, bs]
       | j + 1, hj => simp at hj
      case d2 => intro u hu; simp at hu; subst hu; rfl
      case d3 => unfold maxLen; omega
      case d4 => omega
      case d5 => simp; omega
      intro v' w2 hown' hgrow hnil
      have HB2 : Hid (Below w1.heap.size w1 w2) := (HB.out.alloc hsz _).grown hgrow (by simp; omega) (fun b hb => (World.ownsRow.lt HO2.out b hb).1)
      obtain ⟨g2, cap2, hv2⟩ : ∃ g2 cap2, v' = .slice (some ⟨g2, 0, none⟩) (p.length + 1) cap2 := by
       rcases hown'.2 with ⟨h, h'⟩ | ⟨g', cap', cur, h, _⟩
       ·omega
       ·exact ⟨_, _, h⟩
      rw [hv2] at hown' ⊢
      have HO3 : Hid (w2.ownsRow w1.heap.size 9 1 (.slice (some ⟨g2, 0, none⟩) (p.length + 1) cap2) (p.length + 1) ((p.map wtVal).reverse ++ [wtVal .word])) := hown'
      clear hown' hgrow hnil hv2
      go_wp2
      go_roundw
      case rel => exact ⟨k + 1, .word :: p, g2, cap2, by omega, by go_num, rfl, by have := HO3.out; simpa using this, HB2.out, by simp; omega, by rw [HA.out, HD.out]; simp only [formRun]; rw [HC.out]⟩
      case measure => simp [intOf]; omega
     ·rw [decide_eq_false h1] at o1
      by_cases h2 : t.c = .num
      ·rw [decide_eq_true h2] at o2
       have HC : Hid _ := h2
       clear h1 h2 o3
       go_wp2
       go_roundw
       case rel => exact ⟨k + 1, p, g, cap, by omega, by go_num, rfl, HO2.out, HB.out, by omega, by rw [HA.out, HD.out]; simp only [formRun]; rw [HC.out]⟩
       case measure => simp [intOf]; omega
      ·rw [decide_eq_false h2] at o2
       by_cases h3 : t.c = .nam
       ·rw [decide_eq_true h3] at o3
        have HC : Hid _ := h3
        clear h1 h2 h3
        go_wp2
        go_roundw
        case rel => exact ⟨k + 1, p, g, cap, by omega, by go_num, rfl, HO2.out, HB.out, by omega, by rw [HA.out, HD.out]; simp only [formRun]; rw [HC.out]⟩
        case measure => simp [intOf]; omega
       ·rw [decide_eq_false h3] at o3
        have HC : Hid (t.c ≠ .opn ∧ t.c ≠ .num ∧ t.c ≠ .nam) := ⟨h1, h2, h3⟩
        clear h1 h2 h3
        go_wp2
        go_ret
        refine ⟨ret_int ?_, (HTB.out.trans (HB.out.mono hw1))⟩
        rw [HA.out, HD.out]
        have := HC.out
        simp only [formRun]
        split <;> simp_all [formInt]
    | word =>
     simp only [wtVal, Wt.bytes] at hpc
     have q1 : ((bs [119, 111, 114, 100]).toList == [101]) = false := by rw [bs_beq]; decide
     have q2 : ((bs [119, 111, 114, 100]).toList == [119, 111, 114, 100]) = true := by rw [bs_beq]; decide
     by_cases h1 : wantsC t.c placed = []
     ·have hwn := fun w => wants_no t.c placed w h1
      have HC : Hid _ := h1
      clear h1
      go_wp2_with (go_at_call 101; refine (hwn _).mono ?_; rintro e w' ⟨rfl, rfl⟩)
      go_ret
      exact ⟨ret_int (by rw [HA.out, HD.out]; simp only [formRun]; rw [if_pos HC.out]; rfl), (HTB.out.trans (HB.out.mono hw1))⟩
     ·have hwn := fun w => wants_yes t.c placed w h1
      have hl := wantsC_len t.c placed
      have HC : Hid _ := h1
      obtain ⟨more, hm⟩ : ∃ more, more = wantsC t.c placed := ⟨_, rfl⟩
      have hmp : 0 < more.length := by rw [hm]; exact List.length_pos_iff.2 h1
      rw [← hm] at hwn hl
      have HM : Hid _ := hm
      have hb0 : ((more.length : Int) == 0) = false := by rw [beq_eq_false_iff_ne]; omega
      clear h1 hm
      go_wp2_with (first
       | (go_at_call 101; refine (hwn _).mono ?_; rintro e w' ⟨rfl, rfl⟩)
       | (at_builtin; refine wpList_append_own _ rfl (.tmp 84) (.tmp 85) 68 rfl w1.heap.size 9 i0 _ 1 16 Tryz.undStrs HI.out HZ0.out HZ1.out HZ2.out rfl (by decide) _ p.length ((p.map wtVal).reverse) rfl (HO2.out.alloc _) ⟨wr.heap.size, 0, none⟩ more.length more.length ((more.map wtVal).reverse) rfl (by simp) ?d1 ?d2 ?d3 ?d4 ?d5 ?_))
      case d1 =>
       intro j u hj
       rw [← hj]
       exact alloc_cell_at _ _ _ _
      case d2 => intro u hu; simp at hu; obtain ⟨x, _, rfl⟩ := hu; rfl
      case d3 => unfold maxLen; omega
      case d4 => omega
      case d5 => simp; omega
      intro v' w2 hown' hgrow hnil
      have HB2 : Hid (Below w1.heap.size w1 w2) := (HB.out.alloc hsz _).grown hgrow (by simp; omega) (fun b hb => (World.ownsRow.lt HO2.out b hb).1)
      obtain ⟨g2, cap2, hv2⟩ : ∃ g2 cap2, v' = .slice (some ⟨g2, 0, none⟩) (p.length + more.length) cap2 := by
       rcases hown'.2 with ⟨h, h'⟩ | ⟨g', cap', cur, h, _⟩
       ·omega
       ·exact ⟨_, _, h⟩
      rw [hv2] at hown' ⊢
      have HO3 : Hid (w2.ownsRow w1.heap.size 9 1 (.slice (some ⟨g2, 0, none⟩) (p.length + more.length) cap2) (p.length + more.length) ((p.map wtVal).reverse ++ (more.map wtVal).reverse)) := hown'
      clear hown' hgrow hnil hv2
      go_wp2
      go_roundw
      case rel =>
       refine ⟨k + 1, more ++ p, g2, cap2, by omega, by go_num, by simp; omega, ?_, HB2.out, by simp; omega, by rw [HA.out, HD.out]; simp only [formRun]; rw [if_neg HC.out, ← HM.out]⟩
       have := HO3.out
       have e1 : (more ++ p).length = p.length + more.length := by simp; omega
       rw [e1]
       simpa using this
      case measure => simp [intOf]; omega
  ·have hkk : k = ts.length := by omega
   have hd : ts.drop k = [] := by rw [hkk]; simp
   have HD : Hid _ := hd
   clear hd
   cases pile with
   | nil =>
    simp only [List.length_nil] at *
    go_wp2
    go_ret
    exact ⟨ret_int (by rw [HA.out, HD.out]; simp [formRun, formInt]), (HTB.out.trans (HB.out.mono hw1))⟩
   | cons x p =>
    simp only [List.length_cons] at *
    go_wp2
    go_ret
    exact ⟨ret_int (by rw [HA.out, HD.out]; simp [formRun, formInt]), (HTB.out.trans (HB.out.mono hw1))⟩
theorem blk_cell {w : World} {b : Nat} {arr : Array Value} {t : TypeId} {fr : Nat × Nat} (h : w.heap[b]? = some (.cells arr t fr)) (o : Nat) : w.cell? ⟨b, o, none⟩ = arr[o]? := by
 simp [World.cell?, h]
theorem blk_free {w : World} {b : Nat} {arr : Array Value} {t : TypeId} (h : w.heap[b]? = some (.cells arr t (0, 0))) (o : Nat) : w.frozen? ⟨b, o, none⟩ = false := by
 simp [World.frozen?, h]
theorem blk_set {w : World} {b : Nat} {arr : Array Value} {t : TypeId} {fr : Nat × Nat} (h : w.heap[b]? = some (.cells arr t fr)) (o : Nat) (u : Value) : (w.setCell ⟨b, o, none⟩ u).heap[b]? = some (.cells (arr.setIfInBounds o u) t fr) := by
 simp [World.setCell, Array.getElem?_modify, h]
theorem blk_other {w : World} {b : Nat} (a : Addr) (u : Value) (hb : b ≠ a.block) : (w.setCell a u).heap[b]? = w.heap[b]? := Below.heap_setCell _ _ _ _ hb
theorem blk_lt {w : World} {b : Nat} {o : Obj} (h : w.heap[b]? = some o) : b < w.heap.size := by
 rcases Nat.lt_or_ge b w.heap.size with h1 | h1
 ·exact h1
 ·rw [Array.getElem?_eq_none h1] at h; cases h
theorem blk_alloc {w : World} {b : Nat} {x : Obj} (o : Obj) (h : w.heap[b]? = some x) : (w.alloc o).heap[b]? = some x := by
 rw [Below.heap_alloc _ _ _ (blk_lt h)]; exact h
theorem blk_new (w : World) (o : Obj) : (w.alloc o).heap[w.heap.size]? = some o := by
 show (w.heap.push o)[w.heap.size]? = _; simp
theorem owns_base {w : World} {base base' : Nat} {e : TypeId} {size : Nat} {v : Value} {n : Nat} {xs : List Value} (h : w.ownsRow base e size v n xs) (hb : ∀ k, v.ownBlock = some k → base' ≤ k) : w.ownsRow base' e size v n xs := by
 obtain ⟨h1, h2⟩ := h
 refine ⟨h1, ?_⟩
 rcases h2 with h2 | ⟨g, cap, cur, hv, hg, hh, r⟩
 ·exact Or.inl h2
 ·exact Or.inr ⟨g, cap, cur, hv, hb g (by rw [hv]; rfl), hh, r⟩
theorem owns_blk {w w' : World} {base : Nat} {e : TypeId} {size : Nat} {v : Value} {n : Nat} {xs : List Value} (h : w.ownsRow base e size v n xs) (hb : ∀ k, v.ownBlock = some k → w'.heap[k]? = w.heap[k]?) : w'.ownsRow base e size v n xs := by
 obtain ⟨h1, h2⟩ := h
 refine ⟨h1, ?_⟩
 rcases h2 with h2 | ⟨g, cap, cur, hv, hg, hh, r⟩
 ·exact Or.inl h2
 ·exact Or.inr ⟨g, cap, cur, hv, hg, by rw [hb g (by rw [hv]; rfl)]; exact hh, r⟩
theorem app_own {P : Program} (w : World) {ops : Array Oper} {rest : List Oper} {o : Oper} {a : Act} {Q : Exit → Act → World → Prop} (hgd : o.guard = none)
  (s x : Operand) (t : TypeId) (ho : o.op = Op.call { callee := Callee.builtin Builtin.append, args := #[s, x], argTypes := #[t, t] }) (e : TypeId) (i : TypeInfo)
  (z : Value) (size bytes : Nat) (ht : P.underlying t = some (TypeDesc.slice e)) (hi : P.info? e = some i) (hz : i.zero = some z) (hsize : i.size = size) (hby : i.bytes = bytes)
  (hzs : z.cells.size = size) (hsz : 0 < size) (v : Value) (n : Nat) (xs : List Value) (hs : a.eval s = v) (hown : w.ownsRow 0 e size v n xs) (ad : Addr) (m c : Nat) (news : List Value)
  (hx : a.eval x = Value.slice (some ad) m c) (hl : news.length = m * size) (hnews : ∀ (j : Nat) (u : Value), news[j]? = some u → w.cell? (ad.add j) = some u)
  (h1 : ∀ (u : Value), u ∈ news → u.oneCell' = true) (hm : 0 < m) (h63 : n + m ≤ maxLen) (hbytes : (n + m) * bytes ≤ 140737488355328)
  (h : ∀ (g cap : Nat) (w' : World), w'.ownsRow 0 e size (.slice (some ⟨g, 0, none⟩) (n + m) cap) (n + m) (xs ++ news) → w.grownBy w' v.ownBlock →
   (v.ownBlock = some g ∨ w.heap.size ≤ g) → wpList P ops Q rest (a.put o.dst (.slice (some ⟨g, 0, none⟩) (n + m) cap)) w') :
  wpList P ops Q (o :: rest) a w := by
 have fin : ∀ (v' : Value) (w' : World), w'.ownsRow w.heap.size e size v' (n + m) (xs ++ news) → w.grownBy w' none → wpList P ops Q rest (a.put o.dst v') w' := by
  intro v' w' ho' hg'
  obtain ⟨g, cap, hv'⟩ : ∃ g cap, v' = .slice (some ⟨g, 0, none⟩) (n + m) cap := by
   rcases ho'.2 with ⟨_, hh⟩ | ⟨g, cap, cur, hv, _⟩
   ·omega
   ·exact ⟨_, _, hv⟩
  subst hv'
  have hlt := ho'.lt g rfl
  exact h g cap w' (owns_base ho' (fun k hk => Nat.zero_le _)) ⟨hg'.os, hg'.tape, hg'.output, hg'.size, fun k hk _ => hg'.block k hk (by simp)⟩ (Or.inr hlt.1)
 rcases hown.2 with ⟨hv, hn⟩ | ⟨g, cap, cur, hv, hg, hh, hn, hcm, hcs, htake⟩
 ·subst hn
  have hxs : xs = [] := List.length_eq_zero_iff.1 (by have := hown.1; omega)
  refine wpList_append_grows w hgd s x t ho e i z size bytes ht hi hz hsize hby hzs hsz none 0 0 xs (by rw [hs, hv]) (fun _ => ⟨rfl, rfl⟩) hown.1 (fun b hb => by cases hb) ad m c news hx hl hnews h1 (by omega) h63 hbytes fin
 ·by_cases hroom : n + m ≤ cap
  ·refine wpList_append_fits w hgd s x t ho 0 e i size ht hi hsize g n cap xs (by rw [hs, hv]) (by rw [hv] at hown; exact hown) ad m c news hx hl hnews h1 hroom ?_
   intro w' ho' hg'
   exact h g cap w' ho' (by rw [hv]; exact hg') (Or.inl (by rw [hv]; rfl))
  ·refine wpList_append_grows w hgd s x t ho e i z size bytes ht hi hz hsize hby hzs hsz (some ⟨g, 0, none⟩) n cap xs (by rw [hs, hv]) (fun hh => by cases hh) hown.1 ?_ ad m c news hx hl hnews h1 (by omega) h63 hbytes fin
   intro b hb j u hj
   simp only [Option.some.injEq] at hb
   subst hb
   exact hown.cells (by rw [hv]; rfl) j u hj
def ptr (b : Nat) : Value := .pointer (some ⟨b, 0, none⟩)
def numB : List UInt8 := [110, 117, 109, 98, 101, 114]
def nameB : List UInt8 := [110, 97, 109, 101]
def exCells (op : List UInt8) (p : Nat) (nm : List UInt8) (n : Int) (kids : Value) (id last site : Nat) : Array Value :=
 #[.string (bs op), .int .i64 p, .string (bs nm), .int .i64 n, kids, .int .i64 id, .int .i64 last, .int .i64 site]
mutual
def IsT (w : World) (F : Nat → Prop) : PT → Nat → Nat → Nat → Prop
 | .num p s, id, site, b => F b ∧ w.heap[b]? = some (.cells (exCells numB p [] (valueL s) (.slice none 0 0) id id site) 82 (0, 0))
 | .name p s, id, site, b => F b ∧ w.heap[b]? = some (.cells (exCells nameB p s 0 (.slice none 0 0) id id site) 82 (0, 0))
 | .node p k nm rg kids, id, site, b => F b ∧ ∃ kv bl, w.heap[b]? = some (.cells (exCells k.bytes p nm (valueL rg) kv id (id + cntL kids) site) 82 (0, 0)) ∧
   (∀ g, kv.ownBlock = some g → F g) ∧ w.ownsRow 0 63 1 kv kids.length (bl.map ptr) ∧ IsTs w F kids (id + 1) (site + if k = .pair then 1 else 0) bl
def IsTs (w : World) (F : Nat → Prop) : List PT → Nat → Nat → List Nat → Prop
 | [], _, _, [] => True
 | t :: ts, id, site, b :: bl => IsT w F t id site b ∧ IsTs w F ts (id + t.cnt) (site + t.prs) bl
 | [], _, _, _ :: _ => False
 | _ :: _, _, _, [] => False
end
mutual
theorem IsT.keep {w w' : World} {F F' : Nat → Prop} (hF : ∀ k, F k → F' k) (hk : ∀ k, F k → w'.heap[k]? = w.heap[k]?) : ∀ (t : PT) (id site b : Nat), IsT w F t id site b → IsT w' F' t id site b
 | .num p s, id, site, b, h => by
  simp only [IsT] at h ⊢
  exact ⟨hF _ h.1, by rw [hk _ h.1]; exact h.2⟩
 | .name p s, id, site, b, h => by
  simp only [IsT] at h ⊢
  exact ⟨hF _ h.1, by rw [hk _ h.1]; exact h.2⟩
 | .node p k nm rg kids, id, site, b, h => by
  simp only [IsT] at h ⊢
  obtain ⟨hb, kv, bl, h1, h2, h3, h4⟩ := h
  exact ⟨hF _ hb, kv, bl, by rw [hk _ hb]; exact h1, fun g hg => hF _ (h2 g hg), owns_blk h3 (fun g hg => hk _ (h2 g hg)), IsTs.keep hF hk kids _ _ bl h4⟩
theorem IsTs.keep {w w' : World} {F F' : Nat → Prop} (hF : ∀ k, F k → F' k) (hk : ∀ k, F k → w'.heap[k]? = w.heap[k]?) : ∀ (ts : List PT) (id site : Nat) (bl : List Nat), IsTs w F ts id site bl → IsTs w' F' ts id site bl
 | [], _, _, [], _ => by simp [IsTs]
 | t :: ts, id, site, b :: bl, h => by
  simp only [IsTs] at h ⊢
  exact ⟨IsT.keep hF hk t _ _ b h.1, IsTs.keep hF hk ts _ _ bl h.2⟩
 | [], _, _, _ :: _, h => by simp [IsTs] at h
 | _ :: _, _, _, [], h => by simp [IsTs] at h
end
theorem cntL_snoc (ts : List PT) (t : PT) : cntL (ts ++ [t]) = cntL ts + t.cnt := by
 induction ts with
 | nil => simp [cntL]
 | cons a r ih => simp [cntL, ih]; omega
theorem prsL_snoc (ts : List PT) (t : PT) : prsL (ts ++ [t]) = prsL ts + t.prs := by
 induction ts with
 | nil => simp [prsL]
 | cons a r ih => simp [prsL, ih]; omega
theorem IsTs.snoc {w : World} {F : Nat → Prop} : ∀ (ts : List PT) (id site : Nat) (bl : List Nat) (t : PT) (b : Nat), IsTs w F ts id site bl → IsT w F t (id + cntL ts) (site + prsL ts) b → IsTs w F (ts ++ [t]) id site (bl ++ [b])
 | [], id, site, [], t, b, _, h => by simp only [List.nil_append, IsTs, and_true]; simpa [cntL, prsL] using h
 | a :: ts, id, site, c :: bl, t, b, h, h' => by
  simp only [IsTs] at h
  simp only [List.cons_append, IsTs]
  refine ⟨h.1, IsTs.snoc ts _ _ bl t b h.2 ?_⟩
  simp only [cntL, prsL] at h'
  rw [Nat.add_assoc, Nat.add_assoc]; exact h'
 | [], _, _, _ :: _, _, _, h, _ => by simp [IsTs] at h
 | _ :: _, _, _, [], _, _, h, _ => by simp [IsTs] at h
theorem IsTs.len {w : World} {F : Nat → Prop} : ∀ (ts : List PT) (id site : Nat) (bl : List Nat), IsTs w F ts id site bl → bl.length = ts.length
 | [], _, _, [], _ => rfl
 | t :: ts, id, site, b :: bl, h => by simp only [IsTs] at h; simp [IsTs.len ts _ _ bl h.2]
 | [], _, _, _ :: _, h => by simp [IsTs] at h
 | _ :: _, _, _, [], h => by simp [IsTs] at h
end Go.Proofs.YtpicaknklgccoaaGreatDoor
