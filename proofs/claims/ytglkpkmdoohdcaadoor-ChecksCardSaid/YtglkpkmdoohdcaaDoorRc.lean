import Derived.Test.YtglkpkmdoohdcaaDoorRb
namespace Go.Proofs.YtglkpkmdoohdcaaDoor
open Go.RowKit

def tkCells (t : Tk) : List Value := [.string (bs t.s), .int .i64 t.at_, .string (bs t.c.bytes)]
theorem tk_len (ts : List Tk) : (ts.flatMap tkCells).length = ts.length * 3 := by
  induction ts with
  | nil => rfl
  | cons t r ih => simp [tkCells, ih]; omega

theorem Tryd.infoTok : (Tryd.prog.info? 95).map (fun i => (i.zero, i.size, i.bytes)) = some (some (.agg #[.string ⟨#[]⟩, .int .i64 0, .string ⟨#[]⟩]), 3, 40) := by kernel_rfl
theorem Tryd.undToks : Tryd.prog.underlying 92 = some (.slice 95) := by kernel_rfl

theorem toks_step_blank (s : ByteArray) (k : Nat) (hk : k < s.size) (h : blankB s[k] = true) : toks (s.size - k) k (s.data.toList.drop k) = toks (s.size - (k + 1)) (k + 1) (s.data.toList.drop (k + 1)) := by
  rw [drop_cons s k hk, show s.size - k = (s.size - (k + 1)) + 1 from by omega, toks_blank _ _ _ _ h]

def tkAt (s : ByteArray) (k : Nat) : Tk := ⟨(s.data.toList.drop k).take (tokenOf (s.data.toList.drop k)).1, k, (tokenOf (s.data.toList.drop k)).2⟩

theorem toks_step_tok (s : ByteArray) (k : Nat) (hk : k < s.size) (h : blankB s[k] = false) :
    toks (s.size - k) k (s.data.toList.drop k) = tkAt s k :: toks (s.size - (k + (tokenOf (s.data.toList.drop k)).1)) (k + (tokenOf (s.data.toList.drop k)).1) (s.data.toList.drop (k + (tokenOf (s.data.toList.drop k)).1)) := by
  have hp := tokenOf_pos (s.data.toList.drop k)
  have e : toks (s.size - k) k (s.data.toList.drop k) = tkAt s k :: toks (s.size - (k + 1)) (k + (tokenOf (s.data.toList.drop k)).1) ((s.data.toList.drop k).drop (tokenOf (s.data.toList.drop k)).1) := by
    unfold tkAt
    rw [drop_cons s k hk]
    conv => lhs; rw [show s.size - k = (s.size - (k + 1)) + 1 from by omega]
    rw [toks_tok _ _ _ _ h]
  rw [e, List.drop_drop]
  congr 1
  apply toks_fuel
  · simp; omega
  · simp

theorem tokVal_cells (s : ByteArray) (k : Nat) : tokVal s k (tokenOf (s.data.toList.drop k)).1 (tokenOf (s.data.toList.drop k)).2 = .agg #[.string (bs (tkAt s k).s), .int .i64 k, .string (bs (tkAt s k).c.bytes)] := by
  unfold tokVal
  rw [bs_eq (ext_of s k (tokenOf (s.data.toList.drop k)).1)]
  rfl

theorem grown_of_below {w w' : World} (h : Below w.heap.size w w') (row : Option Nat) : w.grownBy w' row := ⟨h.os, h.tape, h.output, h.size, fun k hk _ => h.block k hk⟩
theorem owns_below {w w' : World} {base : Nat} {e : TypeId} {size : Nat} {v : Value} {n : Nat} {xs : List Value} (h : w.ownsRow base e size v n xs) (hb : Below w.heap.size w w') : w'.ownsRow base e size v n xs := by
  refine h.kept (grown_of_below hb none) ?_
  cases v.ownBlock <;> simp
theorem owns_ne {w : World} {base : Nat} {e : TypeId} {size : Nat} {v : Value} {n : Nat} {xs : List Value} (h : w.ownsRow base e size v n xs) {b : Nat} (hb : w.heap.size ≤ b) : some b ≠ v.ownBlock := by
  intro e; have := h.lt b e.symm; omega

theorem bs_size (l : List UInt8) : (bs l).size = l.length := by show l.toArray.size = l.length; simp

theorem tkAt_len (s : ByteArray) (k : Nat) (hk : k < s.size) : (tkAt s k).s.length = (tokenOf (s.data.toList.drop k)).1 := by
  have := tokenOf_le (s.data.toList.drop k) (by rw [drop_cons s k hk]; simp)
  unfold tkAt
  simp only [List.length_take]; omega

set_option maxRecDepth 100000 in
set_option maxHeartbeats 1000000 in
theorem Tokens_any (s : ByteArray) (w : World) (hs : s.size ≤ 9000) :
    Calls Tryd.prog 38 #[.string s] w fun e w' => ∃ v, e = .returned v ∧ w'.ownsRow w.heap.size 95 3 v (tokens s.data.toList).length ((tokens s.data.toList).flatMap tkCells) ∧ Below w.heap.size w w' := by
  obtain ⟨i0, hi, hz0, hz1, hz2⟩ := info_parts Tryd.infoTok
  have HI : Hid _ := hi
  have HZ0 : Hid _ := hz0
  have HZ1 : Hid _ := hz1
  have HZ2 : Hid _ := hz2
  clear hi hz0 hz1 hz2
  go_enter Tryd.func38, Tryd.ntmps38
  go_wp2
  go_loopw [3, 4] (fun v i wr => ∃ (k : Nat) (pre : List Tk), k ≤ s.size ∧ i = .int .i64 k ∧ wr.ownsRow w.heap.size 95 3 v pre.length (pre.flatMap tkCells) ∧ Below w.heap.size w wr ∧ pre.length ≤ k ∧
      tokens s.data.toList = pre ++ toks (s.size - k) k (s.data.toList.drop k)) (fun _ i _ => s.size - (intOf i).toNat)
  case atStart => exact ⟨0, [], by omega, rfl, World.ownsRow_nil _ _ _ _, Below.refl _ _, by simp, by simp [tokens]⟩
  case round =>
    obtain ⟨k, pre, hk, rfl, hown, hbel, hpk, hall⟩ := hrel
    have HA : Hid _ := hall
    have HO : Hid (wr.ownsRow w.heap.size 95 3 _ pre.length (pre.flatMap tkCells)) := hown
    have hsz := hbel.size
    clear hall hown
    by_cases hlt : k < s.size
    · by_cases hb : blankB s[k] = true
      · have HS : Hid _ := toks_step_blank s k hlt hb
        have hb' : ((s[k].toNat : Int) == 32) = true ∨ ((s[k].toNat : Int) == 32) = false ∧ ((s[k].toNat : Int) == 10) = true := by
          have e1 : ((s[k].toNat : Int) == 32) = (s[k] == 32) := byte_eq s[k] 32
          have e2 : ((s[k].toNat : Int) == 10) = (s[k] == 10) := byte_eq s[k] 10
          rw [e1, e2]; unfold blankB at hb; cases h : s[k] == 32 <;> simp_all
        clear hb
        rcases hb' with hb | ⟨hb1, hb2⟩
        all_goals
          go_wp2
          go_roundw
          case rel => exact ⟨k + 1, pre, by omega, by go_num, HO.out, hbel, by omega, by rw [HA.out, HS.out]⟩
          case measure => simp [intOf]; omega
      · have hb0 : blankB s[k] = false := by simpa using hb
        have HS : Hid _ := toks_step_tok s k hlt hb0
        have hb1 : ((s[k].toNat : Int) == 32) = false := by
          have e1 : ((s[k].toNat : Int) == 32) = (s[k] == 32) := byte_eq s[k] 32
          rw [e1]; unfold blankB at hb0; simp_all
        have hb2 : ((s[k].toNat : Int) == 10) = false := by
          have e1 : ((s[k].toNat : Int) == 10) = (s[k] == 10) := byte_eq s[k] 10
          rw [e1]; unfold blankB at hb0; simp_all
        have htk := token_any s k
        rw [tokVal_cells] at htk
        have hlen := tkAt_len s k hlt
        have hpos := tokenOf_pos (s.data.toList.drop k)
        have hle := tokenOf_le (s.data.toList.drop k) (by rw [drop_cons s k hlt]; simp)
        rw [List.length_drop, size_list] at hle
        obtain ⟨t, ht⟩ : ∃ t, t = tkAt s k := ⟨_, rfl⟩
        rw [← ht] at htk hlen
        have HT : Hid _ := ht
        have htat : t.at_ = k := by rw [ht]; rfl
        have HTA : Hid _ := htat
        obtain ⟨n, hn⟩ : ∃ n, n = (tokenOf (s.data.toList.drop k)).1 := ⟨_, rfl⟩
        rw [← hn] at hlen hpos hle
        have HN : Hid _ := hn
        have HLEN : Hid _ := hlen
        have hbz : (bs t.s).size = n := by rw [bs_size, hlen]
        clear hb hb0 ht hn hlen htat
        go_wp2_with (first
          | (go_at_call 61; refine (htk _ hs hlt).mono ?_; rintro e w1 ⟨rfl, hb1⟩)
          | (at_builtin; go_must (refine wpList_append_own _ rfl (.tmp 25) (.tmp 27) 92 rfl w.heap.size 95 i0 _ 3 40 Tryd.undToks HI.out HZ0.out HZ1.out HZ2.out rfl (by decide) _ pre.length (pre.flatMap tkCells) rfl ?own ⟨w1.heap.size + 1, 0, none⟩ 1 1 (tkCells t) rfl rfl ?c1 ?c2 ?c3 ?c4 ?c5 ?_)))
        case own => exact ((owns_below HO.out hb1).alloc _).alloc _
        case c1 =>
          intro j u hj
          match j, hj with
          | 0, hj => simp [tkCells] at hj; subst hj; simp [Addr.add]
          | 1, hj => simp [tkCells, HTA.out] at hj; subst hj; simp [Addr.add]
          | 2, hj => simp [tkCells] at hj; subst hj; simp [Addr.add]
          | j + 3, hj => simp [tkCells] at hj
        case c2 => intro u hu; simp [tkCells] at hu; rcases hu with rfl | rfl | rfl <;> rfl
        case c3 => unfold maxLen; omega
        case c4 => omega
        case c5 => have := hb1.size; simp; omega
        · intro v' w2 hown' hgrow _
          have hsz1 := hb1.size
          have hbel2 : Below w.heap.size w w2 := by
            refine (((hbel.trans (hb1.mono hsz)).alloc (by omega) _).alloc (by simp; omega) _).grown hgrow (by simp; omega) ?_
            intro b hb
            exact (World.ownsRow.lt HO.out b hb).1
          have hcell : w2.cell? ⟨w1.heap.size, 0, none⟩ = some (.string (bs t.s)) :=
            hgrow.cell (by simp) (owns_ne HO.out hsz1)
          have HO2 : Hid (w2.ownsRow w.heap.size 95 3 v' (pre.length + 1) (pre.flatMap tkCells ++ tkCells t)) := hown'
          have HB2 : Hid _ := hbel2
          clear hown' hgrow hbel2 hbel hb1
          go_wp2
          go_roundw
          case rel =>
            refine ⟨k + n, pre ++ [t], by omega, by first | go_num | (rw [hbz]; go_num), ?_, HB2.out, by simp; omega, ?_⟩
            · have e1 : (pre ++ [t]).length = pre.length + 1 := by simp
              have e2 : (pre ++ [t]).flatMap tkCells = pre.flatMap tkCells ++ tkCells t := by simp
              rw [e1, e2]; exact HO2.out
            · rw [HA.out, HS.out]; rw [HN.out, HT.out]; simp
          case measure => simp [intOf]; omega
    · go_wp2
      go_ret
      exact ⟨_, rfl, by rw [HA.out, drop_end s k (by omega)]; have : toks (s.size - k) k [] = [] := by cases s.size - k <;> rfl
                        rw [this, List.append_nil]; exact HO.out, hbel⟩
end Go.Proofs.YtglkpkmdoohdcaaDoor
