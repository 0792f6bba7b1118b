import Derived.Test.YtpicaknklgccoaaDoorX1
import Derived.Test.YtpicaknklgccoaaDoorX2
import Derived.BigQuiet
import Derived.Deep.QuietTactic
import Derived.BigRegion
namespace Go.Proofs.YtpicaknklgccoaaDoor
open Go.RowKit
open Go.Lib (decDigits)
theorem endL_at (s : ByteArray) (k : Nat) (h : k < s.size) (o : Int) : endL o (s.data.toList.drop k) =
  if (if s[k] = 60 then o + 1 else if s[k] = 62 then o - 1 else o) = 0 ∧ (s[k] = 110 ∨ s[k] = 62) then 1 else 1 + endL (if s[k] = 60 then o + 1 else if s[k] = 62 then o - 1 else o) (s.data.toList.drop (k + 1)) := by
 rw [drop_cons s k h]; rfl
theorem bs_beq0 (l m : List UInt8) : ((bs l).toList == m) = (l == m) := by rw [Lib.toList_data]; rfl
theorem beq_of (a b : UInt8) : ((a.toNat : Int) == (b.toNat : Int)) = decide (a = b) := by rw [byte_eq]; rfl
set_option maxHeartbeats 800000 in
theorem end_any (s : ByteArray) (a : Nat) (w : World) (hs : s.size ≤ 100000) (ha : a ≤ s.size) :
  Calls Tryd.prog 110 #[.string s, .int .i64 a] w fun e w' => e = .returned (.int .i64 (a + endL 0 (s.data.toList.drop a) : Nat)) ∧ w' = w := by
 go_enter Tryd.func110, Tryd.ntmps110
 go_wp2
 go_loop [5, 6] (fun o i => ∃ (k : Nat) (q : Int), a ≤ k ∧ k ≤ s.size ∧ i = .int .i64 k ∧ o = .int .i64 q ∧ -(k : Int) ≤ q ∧ q ≤ k ∧ a + endL 0 (s.data.toList.drop a) = k + endL q (s.data.toList.drop k)) (fun _ i => s.size - (intOf i).toNat)
 case atStart => exact ⟨a, 0, by omega, ha, rfl, rfl, by omega, by omega, rfl⟩
 case round =>
  obtain ⟨k, q, hk0, hk, rfl, rfl, hq1, hq2, hall⟩ := hrel
  have HA : Hid _ := hall
  clear hall
  by_cases hlt : k < s.size
  ·have hst := endL_at s k hlt q
   have HS : Hid _ := hst
   have b60 : ((s[k].toNat : Int) == 60) = decide (s[k] = 60) := beq_of s[k] 60
   have b62 : ((s[k].toNat : Int) == 62) = decide (s[k] = 62) := beq_of s[k] 62
   have b110 : ((s[k].toNat : Int) == 110) = decide (s[k] = 110) := beq_of s[k] 110
   clear hst
   by_cases h1 : s[k] = 60
   ·have e62 : ¬ s[k] = 62 := by rw [h1]; decide
    have e110 : ¬ s[k] = 110 := by rw [h1]; decide
    rw [decide_eq_true h1] at b60
    rw [decide_eq_false e62] at b62
    rw [decide_eq_false e110] at b110
    have HS2 : Hid (endL q (s.data.toList.drop k) = 1 + endL (q + 1) (s.data.toList.drop (k + 1))) := by
     have := HS.out; rw [if_pos h1, if_neg (by rintro ⟨_, e | e⟩; exact e110 e; exact e62 e)] at this; exact this
    clear h1 e62 e110 HS
    go_wp2
    all_goals
     go_round
     case rel => exact ⟨k + 1, q + 1, by omega, by omega, by go_num, by go_num, by omega, by omega, by rw [HA.out, HS2.out]; omega⟩
     case measure => simp [intOf]; omega
   ·rw [decide_eq_false h1] at b60
    by_cases h2 : s[k] = 62
    ·have e110 : ¬ s[k] = 110 := by rw [h2]; decide
     rw [decide_eq_true h2] at b62
     rw [decide_eq_false e110] at b110
     by_cases hq : q = 1
     ·subst hq
      have HS2 : Hid (endL 1 (s.data.toList.drop k) = 1) := by
       have := HS.out; rw [if_neg h1, if_pos h2, if_pos ⟨by omega, Or.inr h2⟩] at this; exact this
      clear h1 h2 e110 HS
      go_wp2
      go_ret
      exact ⟨ret_int (by have h := HA.out; rw [HS2.out] at h; omega), rfl⟩
     ·have HS2 : Hid (endL q (s.data.toList.drop k) = 1 + endL (q - 1) (s.data.toList.drop (k + 1))) := by
       have := HS.out; rw [if_neg h1, if_pos h2, if_neg (by omega)] at this; exact this
      have hq' : (q - 1 == 0) = false := by rw [beq_eq_false_iff_ne]; omega
      clear h1 h2 e110 HS
      go_wp2
      all_goals
       go_round
       case rel => exact ⟨k + 1, q - 1, by omega, by omega, by go_num, by go_num, by omega, by omega, by rw [HA.out, HS2.out]; omega⟩
       case measure => simp [intOf]; omega
    ·rw [decide_eq_false h2] at b62
     by_cases h3 : s[k] = 110
     ·rw [decide_eq_true h3] at b110
      by_cases hq : q = 0
      ·subst hq
       have HS2 : Hid (endL 0 (s.data.toList.drop k) = 1) := by
        have := HS.out; rw [if_neg h1, if_neg h2, if_pos ⟨rfl, Or.inl h3⟩] at this; exact this
       clear h1 h2 h3 HS
       go_wp2
       go_ret
       exact ⟨ret_int (by have h := HA.out; rw [HS2.out] at h; omega), rfl⟩
      ·have HS2 : Hid (endL q (s.data.toList.drop k) = 1 + endL q (s.data.toList.drop (k + 1))) := by
        have := HS.out; rw [if_neg h1, if_neg h2, if_neg (by omega)] at this; exact this
       have hq' : (q == 0) = false := by rw [beq_eq_false_iff_ne]; omega
       clear h1 h2 h3 HS
       go_wp2
       all_goals
        go_round
        case rel => exact ⟨k + 1, q, by omega, by omega, by go_num, by go_num, by omega, by omega, by rw [HA.out, HS2.out]; omega⟩
        case measure => simp [intOf]; omega
     ·rw [decide_eq_false h3] at b110
      have HS2 : Hid (endL q (s.data.toList.drop k) = 1 + endL q (s.data.toList.drop (k + 1))) := by
       have := HS.out; rw [if_neg h1, if_neg h2, if_neg (by rintro ⟨_, e | e⟩; exact h3 e; exact h2 e)] at this; exact this
      clear h1 h2 h3 HS
      go_wp2
      all_goals
       go_round
       case rel => exact ⟨k + 1, q, by omega, by omega, by go_num, by go_num, by omega, by omega, by rw [HA.out, HS2.out]; omega⟩
       case measure => simp [intOf]; omega
  ·go_wp2
   go_ret
   exact ⟨ret_int (by have h := HA.out; rw [drop_end s k (by omega)] at h; simp only [endL] at h; omega), rfl⟩
theorem ext_bs (s : ByteArray) (a b : Nat) (l : List UInt8) (h : (s.data.toList.drop a).take (b - a) = l) : s.extract a b = bs l := bs_eq (by rw [Lib.extract_data, h])
theorem dec_len (r : Nat) (h : r < 1000) : (decDigits r).length ≤ 3 := by
 rw [decDigits]; split
 ·simp
 ·rw [decDigits]; split
  ·simp
  ·rw [decDigits]; split
   ·simp
   ·omega
theorem bs_get (l : List UInt8) (k : Nat) (h : k < (bs l).size) : (bs l)[k] = l[k]'(by rw [bs_size] at h; exact h) := rfl
set_option maxHeartbeats 800000 in
theorem halves_n (w : World) : Calls Tryd.prog 92 #[.string (bs Ty.n.txt)] w fun e w' => e = .returned (.tuple #[.string (bs []), .string (bs []), .bool false]) ∧ w' = w := by
 have hse : ((bs Ty.n.txt).toList == []) = false := by rw [bs_beq0]; decide
 go_enter Tryd.func92, Tryd.ntmps92
 go_wp2
 go_ret3
 exact ⟨rfl, rfl⟩
theorem txt_colon (r : Nat) (a b : Ty) (k : Nat) (hk : k < (bs (Ty.p r a b).txt).size) (h1 : 1 ≤ k) (h2 : k ≤ (decDigits r).length) : (bs (Ty.p r a b).txt)[k] ≠ 58 := by
 rw [bs_get]
 simp only [Ty.txt]
 obtain ⟨j, rfl⟩ : ∃ j, k = j + 1 := ⟨k - 1, by omega⟩
 rw [List.getElem_cons_succ, List.getElem_append_left (by omega)]
 exact (digit_ne (dec_digit r _ (List.getElem_mem _))).1
theorem txt_colon_at (r : Nat) (a b : Ty) (hk : (decDigits r).length + 1 < (bs (Ty.p r a b).txt).size) : (bs (Ty.p r a b).txt)[(decDigits r).length + 1] = 58 := by
 rw [bs_get]
 simp only [Ty.txt]
 rw [List.getElem_cons_succ, List.getElem_append_right (by omega)]
 simp
theorem txt_len (r : Nat) (a b : Ty) : (Ty.p r a b).txt.length = (decDigits r).length + a.txt.length + b.txt.length + 3 := by
 simp [Ty.txt]; omega
theorem txt_drop (r : Nat) (a b : Ty) : (Ty.p r a b).txt.drop ((decDigits r).length + 2) = a.txt ++ (b.txt ++ [62]) := by
 simp only [Ty.txt]
 rw [List.drop_succ_cons, List.drop_append]
 simp
set_option maxHeartbeats 800000 in
theorem halves_core (S xa xb : ByteArray) (D A : Nat) (w : World) (hs : S.size ≤ 100000) (hD : D + 2 + A + 2 ≤ S.size) (hem : S.toList.isEmpty = false)
  (h0 : (((S[0]'(by omega)).toNat : Int) != 60) = false) (hcol : Hid (∀ (k : Nat) (hk : k < S.size), 1 ≤ k → k ≤ D → S[k] ≠ 58)) (hcat : Hid (S[D + 1]'(by omega) = 58))
  (hend : ∀ w, Calls Tryd.prog 110 #[.string S, .int .i64 ((D : Int) + 1 + 1)] w fun e w' => e = .returned (.int .i64 (D + 2 + A : Nat)) ∧ w' = w)
  (hxa : Hid (S.extract (D + 2) (D + 2 + A) = xa)) (hxb : Hid (S.extract (D + 2 + A) (S.size - 1) = xb)) :
  Calls Tryd.prog 92 #[.string S] w fun e w' => e = .returned (.tuple #[.string xa, .string xb, .bool true]) ∧ ∃ n, w' = w.drewN n := by
 go_enter Tryd.func92, Tryd.ntmps92
 go_wp2
 go_loop [5] (fun i => ∃ k : Nat, 1 ≤ k ∧ k ≤ D + 1 ∧ i = .int .i64 k) (fun i => D + 1 - (intOf i).toNat)
 case atStart => exact ⟨1, by omega, by omega, rfl⟩
 case round =>
  obtain ⟨k, hk1, hk2, rfl⟩ := hrel
  by_cases hkd : k ≤ D
  ·have hne := hcol.out k (by omega) hk1 hkd
   have hne' : (((S[k]'(by omega)).toNat : Int) != 58) = true := by
    have : (((S[k]'(by omega)).toNat : Int) != 58) = ((S[k]'(by omega)) != 58) := byte_ne _ 58
    rw [this]; simpa using hne
   clear hne
   go_wp2
   go_round
   case rel => exact ⟨k + 1, by omega, by omega, by go_num⟩
   case measure => simp [intOf]; omega
  ·have hkd' : k = D + 1 := by omega
   subst hkd'
   have heq' : (((S[D + 1]'(by omega)).toNat : Int) != 58) = false := by
    rw [hcat.out]; rfl
   go_wp2_with (go_at_call 110; refine (hend _).mono ?_; rintro e w' ⟨rfl, rfl⟩)
   go_quiet (fail)
   go_wp2
   go_ret3
   exact ⟨by rw [← hxa.out, ← hxb.out]; rfl, _, rfl⟩
theorem halves_p (r : Nat) (a b : Ty) (w : World) (hs : (Ty.p r a b).txt.length ≤ 100000) : Calls Tryd.prog 92 #[.string (bs (Ty.p r a b).txt)] w fun e w' => e = .returned (.tuple #[.string (bs a.txt), .string (bs b.txt), .bool true]) ∧ ∃ n, w' = w.drewN n := by
 have hlen := txt_len r a b
 have hdr := txt_drop r a b
 have hpa : 0 < a.txt.length := List.length_pos_iff.2 (txt_ne a)
 have hpb : 0 < b.txt.length := List.length_pos_iff.2 (txt_ne b)
 have hsz : (bs (Ty.p r a b).txt).size = (Ty.p r a b).txt.length := bs_size _
 refine halves_core (bs (Ty.p r a b).txt) (bs a.txt) (bs b.txt) (decDigits r).length a.txt.length w (by omega) (by omega) (by rw [Lib.toList_data]; rfl) rfl (txt_colon r a b) (txt_colon_at r a b (by omega)) ?_ ?_ ?_
 ·intro w
  have hend := end_any (bs (Ty.p r a b).txt) ((decDigits r).length + 2) w (by omega) (by omega)
  rw [bs_toList, hdr, endL_txt] at hend
  have ec : (((decDigits r).length + 2 : Nat) : Int) = ((decDigits r).length : Int) + 1 + 1 := by omega
  rw [ec] at hend
  exact hend
 ·exact ext_bs _ _ _ _ (by rw [bs_toList, hdr]; simp)
 ·refine ext_bs _ _ _ _ ?_
  rw [bs_toList, ← List.drop_drop, hdr, List.drop_left' rfl, hsz, hlen, List.take_append_of_le_length (by omega), List.take_of_length_le (by omega)]
theorem bs_app (l m : List UInt8) : bs l ++ bs m = bs (l ++ m) := by
 apply bs_eq; simp [bs]
theorem plain_len (t : Ty) : t.plain.length ≤ t.txt.length := by
 induction t with
 | n => simp [Ty.plain, Ty.txt]
 | p r a b iha ihb => simp [Ty.plain, Ty.txt]; omega
set_option maxHeartbeats 800000 in
theorem plain_any (t : Ty) : ∀ (w : World), t.txt.length ≤ 100000 → Calls Tryd.prog 94 #[.string (bs t.txt)] w fun e w' => e = .returned (.string (bs t.plain)) ∧ ∃ n, w' = w.drewN n := by
 induction t with
 | n =>
  intro w hl
  have hse : ((bs Ty.n.txt).toList == [110]) = true := by rw [bs_beq0]; decide
  go_enter Tryd.func94, Tryd.ntmps94
  go_wp2_with fail
  go_ret
  exact ⟨rfl, 0, rfl⟩
 | p r a b iha ihb =>
  intro w hl
  have hlen := txt_len r a b
  have hse : ((bs (Ty.p r a b).txt).toList == [110]) = false := by rw [bs_beq0]; simp [Ty.txt]
  have hh := fun w => halves_p r a b w hl
  have la := plain_len a
  have lb := plain_len b
  have z1 : (ByteArray.mk #[60]).size = 1 := rfl
  have z2 : (bs a.plain).size ≤ 100000 := by rw [bs_size]; omega
  have z3 : (ByteArray.mk #[60] ++ bs a.plain).size ≤ 100001 := by rw [ByteArray.size_append, z1]; omega
  have z4 : (bs b.plain).size ≤ 100000 := by rw [bs_size]; omega
  have z5 : (ByteArray.mk #[60] ++ bs a.plain ++ bs b.plain).size ≤ 200001 := by rw [ByteArray.size_append]; omega
  have z6 : (ByteArray.mk #[62]).size = 1 := rfl
  go_enter Tryd.func94, Tryd.ntmps94
  go_wp2_with (first
   | (go_at_call 92; refine (hh _).mono ?_; rintro e w1 ⟨rfl, n1, rfl⟩)
   | (go_at_call_of 94 (Value.string (bs a.txt)); refine (iha _ (by omega)).mono ?_; rintro e w2 ⟨rfl, n2, rfl⟩)
   | (go_at_call_of 94 (Value.string (bs b.txt)); refine (ihb _ (by omega)).mono ?_; rintro e w3 ⟨rfl, n3, rfl⟩))
  go_ret
  refine ⟨?_, _, rfl⟩
  have e : (ByteArray.mk #[60] ++ bs a.plain ++ bs b.plain ++ ByteArray.mk #[62]) = bs (Ty.p r a b).plain := by
   rw [show ByteArray.mk #[60] = bs [60] from rfl, show ByteArray.mk #[62] = bs [62] from rfl, bs_app, bs_app, bs_app]
   simp [Ty.plain]
  rw [← e]; rfl
end Go.Proofs.YtpicaknklgccoaaDoor
namespace Go.Proofs.YtpicaknklgccoaaDoor
def Ty.regs : Ty → Prop
 | .n => True
 | .p r a b => r < 1000 ∧ a.regs ∧ b.regs
def Ty.fit (t : Ty) : Prop := t.size ≤ 127 ∧ t.regs
theorem dec2 (r : Nat) (h : r < 1000) : (Go.Lib.decDigits r).length ≤ 3 := by
 rw [Go.Lib.decDigits]; split
 ·simp
 ·rw [Go.Lib.decDigits]; split
  ·simp
  ·rw [Go.Lib.decDigits]; split
   ·simp
   ·omega
theorem regs_len (t : Ty) (h : t.regs) : t.txt.length ≤ 7 * t.size + 1 := by
 induction t with
 | n => simp [Ty.txt, Ty.size]
 | p r a b iha ihb =>
  simp only [Ty.regs] at h
  have h1 := iha h.2.1
  have h2 := ihb h.2.2
  have h3 := dec2 r h.1
  simp only [Ty.txt, Ty.size, List.length_cons, List.length_append, List.length_nil]; omega
theorem fit_len {t : Ty} (h : t.fit) : t.txt.length ≤ 1000 := by
 have := regs_len t h.2
 have := h.1
 omega
structure TSt where
 e : Nat
 at_ : Nat
 of : List (List UInt8)
abbrev TEnv := List (List UInt8 × Ty)
def look (env : TEnv) (s : List UInt8) : Option Ty := (env.reverse.find? (fun x => x.1 == s)).map (·.2)
def errS (st : TSt) (e p : Nat) : TSt := if st.e = 0 then { st with e := e, at_ := p } else st
def fin (id p : Nat) (x : Ty × TSt) : Ty × TSt :=
 let st := if x.2.e = 0 ∧ 63 < x.1.size then errS x.2 6 p else x.2
 (x.1, { st with of := st.of.set id x.1.txt })
def madeT (cls : List Nat) (k : Kw) (p site : Nat) (ks : List Ty) (st : TSt) : Ty × TSt :=
 match k, ks with
 | .new, a :: _ => (a, st)
 | .pair, [a, b] => (.p (cls.getD site 0) a b, st)
 | .fst, .p _ a _ :: _ => (a, st)
 | .snd, .p _ _ b :: _ => (b, st)
 | .if_, [a, b, c] => if a = .n ∧ b.bare = c.bare then (b, st) else (.n, errS st 5 p)
 | .loop, [a, b, c] => if a = .n ∧ b.bare = c.bare then (b, st) else (.n, errS st 5 p)
 | .add, [a, b] => if a = .n ∧ b = .n then (.n, st) else (.n, errS st 5 p)
 | .sub, [a, b] => if a = .n ∧ b = .n then (.n, st) else (.n, errS st 5 p)
 | .less, [a, b] => if a = .n ∧ b = .n then (.n, st) else (.n, errS st 5 p)
 | _, _ => (.n, errS st 5 p)
mutual
def tyFind (cls : List Nat) : PT → Nat → Nat → TEnv → TSt → Ty × TSt
 | .num p _, id, _, _, st => fin id p (.n, st)
 | .name p s, id, _, env, st => fin id p (match look env s with
  | some t => (t, st)
  | none => (.n, errS st 4 p))
 | .node p k nm _ kids, id, site, env, st =>
  fin id p (if k = .let_ then tyLet cls nm kids (id + 1) site env st
   else
    let x := if k = .loop then tyLoop cls nm kids (id + 1) site env st else tyKids cls kids (id + 1) (site + if k = .pair then 1 else 0) env st
    if x.2.e ≠ 0 then (.n, x.2) else madeT cls k p site x.1 x.2)
def tyKids (cls : List Nat) : List PT → Nat → Nat → TEnv → TSt → List Ty × TSt
 | [], _, _, _, st => ([], st)
 | a :: r, id, site, env, st =>
  let x := tyFind cls a id site env st
  let y := tyKids cls r (id + a.cnt) (site + a.prs) env x.2
  (x.1 :: y.1, y.2)
def tyLet (cls : List Nat) (nm : List UInt8) : List PT → Nat → Nat → TEnv → TSt → Ty × TSt
 | [a, b], id, site, env, st =>
  let x := tyFind cls a id site env st
  tyFind cls b (id + a.cnt) (site + a.prs) (env ++ [(nm, x.1)]) x.2
 | _, _, _, _, st => (.n, st)
def tyLoop (cls : List Nat) (nm : List UInt8) : List PT → Nat → Nat → TEnv → TSt → List Ty × TSt
 | [a, b, c], id, site, env, st =>
  let x := tyFind cls a id site env st
  let y := tyFind cls b (id + a.cnt) (site + a.prs) env x.2
  let z := tyFind cls c (id + a.cnt + b.cnt) (site + a.prs + b.prs) (env ++ [(nm, y.1)]) y.2
  ([x.1, y.1, z.1], z.2)
 | _, _, _, _, st => ([], st)
end
end Go.Proofs.YtpicaknklgccoaaDoor
namespace Go.Proofs.YtpicaknklgccoaaDoor
open Go.RowKit
open Go.Lib (decDigits)
def ItFor (w0 : World) (cls : List Nat) : Prop := (∀ x ∈ cls, x < 1000) ∧ ∀ x ∈ cls, ∀ w, Below w0.heap.size w0 w → Calls Tryd.prog 34 #[.int .i64 (x : Nat)] w fun e w' => e = .returned (.string (bs (decDigits x))) ∧ Below w.heap.size w w'
def tyCells (cv nv tv ov : Value) (e p : Nat) : Array Value := #[cv, nv, tv, ov, .int .i64 e, .int .i64 p]
set_option maxHeartbeats 1000000 in
theorem err_any (w : World) (yb xb : Nat) (cv nv tv ov kv : Value) (e p c : Nat) (op nm : List UInt8) (px : Nat) (n : Int) (id last site : Nat) (hne : xb ≠ yb)
  (hy : w.heap[yb]? = some (.cells (tyCells cv nv tv ov e p) 55 (0, 0)))
  (hx : w.heap[xb]? = some (.cells (exCells op px nm n kv id last site) 52 (0, 0))) :
  Calls Tryd.prog 65 #[ptr yb, .int .i64 c, ptr xb] w fun v w' => v = .returned (.string (bs [110])) ∧ w.grownBy w' (some yb) ∧
   w'.heap[yb]? = some (.cells (tyCells cv nv tv ov (if e = 0 then c else e) (if e = 0 then px else p)) 55 (0, 0)) := by
 have y4 : w.cell? ⟨yb, 4, none⟩ = some (.int .i64 e) := by rw [blk_cell hy]; rfl
 have y5 : w.cell? ⟨yb, 5, none⟩ = some (.int .i64 p) := by rw [blk_cell hy]; rfl
 have f4 : w.frozen? ⟨yb, 4, none⟩ = false := blk_free hy 4
 have f5 : w.frozen? ⟨yb, 5, none⟩ = false := blk_free hy 5
 have x1 : w.cell? ⟨xb, 1, none⟩ = some (.int .i64 px) := by rw [blk_cell hx]; rfl
 have hne' : yb ≠ xb := fun h => hne h.symm
 have HY : Hid _ := hy
 clear hy hx
 show Calls _ _ #[Value.pointer (some ⟨yb, 0, none⟩), _, Value.pointer (some ⟨xb, 0, none⟩)] w _
 by_cases he : e = 0
 ·subst he
  go_enter Tryd.func65, Tryd.ntmps65
  go_wp2
  go_ret
  refine ⟨rfl, gr_trans (gr_set w ⟨yb, 4, none⟩ _) (gr_set _ ⟨yb, 5, none⟩ _), ?_⟩
  exact blk_set (blk_set HY.out 4 _) 5 _
 ·have he' : ((e : Int) == 0) = false := by rw [beq_eq_false_iff_ne]; omega
  have HE : Hid (¬ e = 0) := he
  clear he
  go_enter Tryd.func65, Tryd.ntmps65
  go_wp2
  go_ret
  refine ⟨rfl, World.grownBy.refl _ _, ?_⟩
  first | exact HY.out | (rw [if_neg HE.out, if_neg HE.out]; exact HY.out)
set_option maxHeartbeats 1000000 in
theorem pairOf_any (r : Nat) (a b : Ty) (w : World) (hr : r < 1000) (hit : Calls Tryd.prog 34 #[.int .i64 r] w fun e w' => e = .returned (.string (bs (decDigits r))) ∧ Below w.heap.size w w') (hs : a.txt.length + b.txt.length ≤ 90000) : Calls Tryd.prog 93 #[.int .i64 r, .string (bs a.txt), .string (bs b.txt)] w fun e w' => e = .returned (.string (bs (Ty.p r a b).txt)) ∧ Below w.heap.size w w' := by
 have hdl := dec_len r (by omega)
 have z1 : (ByteArray.mk #[60]).size = 1 := rfl
 have z0 : (bs (decDigits r)).size ≤ 3 := by rw [bs_size]; exact hdl
 have z2 : (ByteArray.mk #[60] ++ bs (decDigits r)).size ≤ 4 := by rw [ByteArray.size_append, z1]; omega
 have z3 : (ByteArray.mk #[58]).size = 1 := rfl
 have z4 : (ByteArray.mk #[60] ++ bs (decDigits r) ++ ByteArray.mk #[58]).size ≤ 5 := by rw [ByteArray.size_append, z3]; omega
 have z5 : (bs a.txt).size ≤ 90000 := by rw [bs_size]; omega
 have z6 : (ByteArray.mk #[60] ++ bs (decDigits r) ++ ByteArray.mk #[58] ++ bs a.txt).size ≤ 90005 := by rw [ByteArray.size_append]; omega
 have z7 : (bs b.txt).size ≤ 90000 := by rw [bs_size]; omega
 have z8 : (ByteArray.mk #[60] ++ bs (decDigits r) ++ ByteArray.mk #[58] ++ bs a.txt ++ bs b.txt).size ≤ 180005 := by rw [ByteArray.size_append]; omega
 have z9 : (ByteArray.mk #[62]).size = 1 := rfl
 go_enter Tryd.func93, Tryd.ntmps93
 go_wp2_with (go_at_call 34; refine hit.mono ?_; rintro e w' ⟨rfl, hb⟩)
 go_ret
 refine ⟨?_, hb⟩
 have e : (ByteArray.mk #[60] ++ bs (decDigits r) ++ ByteArray.mk #[58] ++ bs a.txt ++ bs b.txt ++ ByteArray.mk #[62]) = bs (Ty.p r a b).txt := by
  rw [show ByteArray.mk #[60] = bs [60] from rfl, show ByteArray.mk #[58] = bs [58] from rfl, show ByteArray.mk #[62] = bs [62] from rfl, bs_app, bs_app, bs_app, bs_app, bs_app]
  simp [Ty.txt]
 rw [← e]; rfl
theorem grew_of {w w' : World} (h : Below w.heap.size w w') (row : Option Nat) : w.grownBy w' row := grown_of_below h row
theorem below_box (w : World) (o : Obj) (n : Nat) : Below w.heap.size w ((w.alloc o).drewN n) := ⟨rfl, rfl, rfl, by simp, fun k hk => Below.heap_alloc _ _ _ hk⟩
theorem made_ok {w : World} {yb : Nat} {o : Obj} {n : Nat} {c : Obj} (hy : w.heap[yb]? = some c) : w.grownBy ((w.alloc o).drewN n) (some yb) ∧ ((w.alloc o).drewN n).heap[yb]? = some c :=
 ⟨grew_of (below_box w o n) _, by show (w.alloc o).heap[yb]? = _; exact blk_alloc _ hy⟩
set_option maxRecDepth 100000 in
set_option maxHeartbeats 1000000 in
theorem made_fst_ok (w : World) (yb xb : Nat) (cv nv tv ov kv : Value) (p : Nat) (nm : List UInt8) (px : Nat) (n : Int) (id last site : Nat)
  (hy : w.heap[yb]? = some (.cells (tyCells cv nv tv ov 0 p) 55 (0, 0)))
  (hx : w.heap[xb]? = some (.cells (exCells Kw.fst.bytes px nm n kv id last site) 52 (0, 0)))
  (r : Nat) (a b : Ty) (hs : (Ty.p r a b).txt.length ≤ 100000) :
  Calls Tryd.prog 78 #[ptr yb, ptr xb, .agg #[.string (bs (Ty.p r a b).txt), .string (bs []), .string (bs [])]] w fun v w' => v = .returned (.string (bs a.txt)) ∧ w.grownBy w' (some yb) ∧ w'.heap[yb]? = some (.cells (tyCells cv nv tv ov 0 p) 55 (0, 0)) := by
 have x0 : w.cell? ⟨xb, 0, none⟩ = some (.string (bs Kw.fst.bytes)) := by rw [blk_cell hx]; rfl
 have hxb := blk_lt hx
 have HY : Hid _ := hy
 have HX : Hid _ := hx
 have q0 : ((bs Kw.fst.bytes).toList == [110, 101, 119]) = false := by rw [bs_beq0]; decide
 have q1 : ((bs Kw.fst.bytes).toList == [112, 97, 105, 114]) = false := by rw [bs_beq0]; decide
 have q2 : ((bs Kw.fst.bytes).toList == [102, 115, 116]) = true := by rw [bs_beq0]; decide
 have hh := fun w => halves_p r a b w hs
 clear hy hx
 show Calls _ _ #[Value.pointer (some ⟨yb, 0, none⟩), Value.pointer (some ⟨xb, 0, none⟩), _] w _
 go_enter Tryd.func78, Tryd.ntmps78
 go_wp2_with (go_at_call 92; refine (hh _).mono ?_; rintro e w1 ⟨rfl, n1, rfl⟩)
 go_ret
 exact ⟨rfl, made_ok HY.out⟩
set_option maxRecDepth 100000 in
set_option maxHeartbeats 1000000 in
theorem made_fst_no (w : World) (yb xb : Nat) (cv nv tv ov kv : Value) (p : Nat) (nm : List UInt8) (px : Nat) (n : Int) (id last site : Nat) (hne : xb ≠ yb)
  (hy : w.heap[yb]? = some (.cells (tyCells cv nv tv ov 0 p) 55 (0, 0)))
  (hx : w.heap[xb]? = some (.cells (exCells Kw.fst.bytes px nm n kv id last site) 52 (0, 0))) :
  Calls Tryd.prog 78 #[ptr yb, ptr xb, .agg #[.string (bs Ty.n.txt), .string (bs []), .string (bs [])]] w fun v w' => v = .returned (.string (bs [110])) ∧ w.grownBy w' (some yb) ∧ w'.heap[yb]? = some (.cells (tyCells cv nv tv ov 5 px) 55 (0, 0)) := by
 have x0 : w.cell? ⟨xb, 0, none⟩ = some (.string (bs Kw.fst.bytes)) := by rw [blk_cell hx]; rfl
 have hxb := blk_lt hx
 have HY : Hid _ := hy
 have HX : Hid _ := hx
 have q0 : ((bs Kw.fst.bytes).toList == [110, 101, 119]) = false := by rw [bs_beq0]; decide
 have q1 : ((bs Kw.fst.bytes).toList == [112, 97, 105, 114]) = false := by rw [bs_beq0]; decide
 have q2 : ((bs Kw.fst.bytes).toList == [102, 115, 116]) = true := by rw [bs_beq0]; decide
 have hh := fun w => halves_n w
 have her := fun (o : Obj) => err_any (w.alloc o) yb xb cv nv tv ov kv 0 p 5 _ nm px n id last site hne (blk_alloc o hy) (blk_alloc o hx)
 unfold ptr at her
 clear hy hx
 show Calls _ _ #[Value.pointer (some ⟨yb, 0, none⟩), Value.pointer (some ⟨xb, 0, none⟩), _] w _
 go_enter Tryd.func78, Tryd.ntmps78
 go_wp2_with (first
  | (go_at_call 92; refine (hh _).mono ?_; rintro e w1 ⟨rfl, rfl⟩)
  | (go_at_call 65; refine (her _).mono ?_; rintro e w1 ⟨rfl, hg1, hy1⟩))
 go_ret
 exact ⟨rfl, gr_trans (gr_alloc _ _ _) hg1, hy1⟩
set_option maxRecDepth 100000 in
set_option maxHeartbeats 1000000 in
theorem made_snd_ok (w : World) (yb xb : Nat) (cv nv tv ov kv : Value) (p : Nat) (nm : List UInt8) (px : Nat) (n : Int) (id last site : Nat)
  (hy : w.heap[yb]? = some (.cells (tyCells cv nv tv ov 0 p) 55 (0, 0)))
  (hx : w.heap[xb]? = some (.cells (exCells Kw.snd.bytes px nm n kv id last site) 52 (0, 0)))
  (r : Nat) (a b : Ty) (hs : (Ty.p r a b).txt.length ≤ 100000) :
  Calls Tryd.prog 78 #[ptr yb, ptr xb, .agg #[.string (bs (Ty.p r a b).txt), .string (bs []), .string (bs [])]] w fun v w' => v = .returned (.string (bs b.txt)) ∧ w.grownBy w' (some yb) ∧ w'.heap[yb]? = some (.cells (tyCells cv nv tv ov 0 p) 55 (0, 0)) := by
 have x0 : w.cell? ⟨xb, 0, none⟩ = some (.string (bs Kw.snd.bytes)) := by rw [blk_cell hx]; rfl
 have hxb := blk_lt hx
 have HY : Hid _ := hy
 have HX : Hid _ := hx
 have q0 : ((bs Kw.snd.bytes).toList == [110, 101, 119]) = false := by rw [bs_beq0]; decide
 have q1 : ((bs Kw.snd.bytes).toList == [112, 97, 105, 114]) = false := by rw [bs_beq0]; decide
 have q2 : ((bs Kw.snd.bytes).toList == [102, 115, 116]) = false := by rw [bs_beq0]; decide
 have q3 : ((bs Kw.snd.bytes).toList == [115, 110, 100]) = true := by rw [bs_beq0]; decide
 have hh := fun w => halves_p r a b w hs
 clear hy hx
 show Calls _ _ #[Value.pointer (some ⟨yb, 0, none⟩), Value.pointer (some ⟨xb, 0, none⟩), _] w _
 go_enter Tryd.func78, Tryd.ntmps78
 go_wp2_with (go_at_call 92; refine (hh _).mono ?_; rintro e w1 ⟨rfl, n1, rfl⟩)
 go_ret
 exact ⟨rfl, made_ok HY.out⟩
set_option maxRecDepth 100000 in
set_option maxHeartbeats 1000000 in
theorem made_snd_no (w : World) (yb xb : Nat) (cv nv tv ov kv : Value) (p : Nat) (nm : List UInt8) (px : Nat) (n : Int) (id last site : Nat) (hne : xb ≠ yb)
  (hy : w.heap[yb]? = some (.cells (tyCells cv nv tv ov 0 p) 55 (0, 0)))
  (hx : w.heap[xb]? = some (.cells (exCells Kw.snd.bytes px nm n kv id last site) 52 (0, 0))) :
  Calls Tryd.prog 78 #[ptr yb, ptr xb, .agg #[.string (bs Ty.n.txt), .string (bs []), .string (bs [])]] w fun v w' => v = .returned (.string (bs [110])) ∧ w.grownBy w' (some yb) ∧ w'.heap[yb]? = some (.cells (tyCells cv nv tv ov 5 px) 55 (0, 0)) := by
 have x0 : w.cell? ⟨xb, 0, none⟩ = some (.string (bs Kw.snd.bytes)) := by rw [blk_cell hx]; rfl
 have hxb := blk_lt hx
 have HY : Hid _ := hy
 have HX : Hid _ := hx
 have q0 : ((bs Kw.snd.bytes).toList == [110, 101, 119]) = false := by rw [bs_beq0]; decide
 have q1 : ((bs Kw.snd.bytes).toList == [112, 97, 105, 114]) = false := by rw [bs_beq0]; decide
 have q2 : ((bs Kw.snd.bytes).toList == [102, 115, 116]) = false := by rw [bs_beq0]; decide
 have q3 : ((bs Kw.snd.bytes).toList == [115, 110, 100]) = true := by rw [bs_beq0]; decide
 have hh := fun w => halves_n w
 have her := fun (o : Obj) => err_any (w.alloc o) yb xb cv nv tv ov kv 0 p 5 _ nm px n id last site hne (blk_alloc o hy) (blk_alloc o hx)
 unfold ptr at her
 clear hy hx
 show Calls _ _ #[Value.pointer (some ⟨yb, 0, none⟩), Value.pointer (some ⟨xb, 0, none⟩), _] w _
 go_enter Tryd.func78, Tryd.ntmps78
 go_wp2_with (first
  | (go_at_call 92; refine (hh _).mono ?_; rintro e w1 ⟨rfl, rfl⟩)
  | (go_at_call 65; refine (her _).mono ?_; rintro e w1 ⟨rfl, hg1, hy1⟩))
 go_ret
 exact ⟨rfl, gr_trans (gr_alloc _ _ _) hg1, hy1⟩
set_option maxRecDepth 100000 in
set_option maxHeartbeats 1000000 in
theorem made_add_ok (w : World) (yb xb : Nat) (cv nv tv ov kv : Value) (p : Nat) (nm : List UInt8) (px : Nat) (n : Int) (id last site : Nat)
  (hy : w.heap[yb]? = some (.cells (tyCells cv nv tv ov 0 p) 55 (0, 0)))
  (hx : w.heap[xb]? = some (.cells (exCells Kw.add.bytes px nm n kv id last site) 52 (0, 0))) :
  Calls Tryd.prog 78 #[ptr yb, ptr xb, .agg #[.string (bs Ty.n.txt), .string (bs Ty.n.txt), .string (bs [])]] w fun v w' => v = .returned (.string (bs [110])) ∧ w.grownBy w' (some yb) ∧ w'.heap[yb]? = some (.cells (tyCells cv nv tv ov 0 p) 55 (0, 0)) := by
 have x0 : w.cell? ⟨xb, 0, none⟩ = some (.string (bs Kw.add.bytes)) := by rw [blk_cell hx]; rfl
 have hxb := blk_lt hx
 have HY : Hid _ := hy
 have HX : Hid _ := hx
 have q0 : ((bs Kw.add.bytes).toList == [110, 101, 119]) = false := by rw [bs_beq0]; decide
 have q1 : ((bs Kw.add.bytes).toList == [112, 97, 105, 114]) = false := by rw [bs_beq0]; decide
 have q2 : ((bs Kw.add.bytes).toList == [102, 115, 116]) = false := by rw [bs_beq0]; decide
 have q3 : ((bs Kw.add.bytes).toList == [115, 110, 100]) = false := by rw [bs_beq0]; decide
 have q4 : ((bs Kw.add.bytes).toList == [105, 102]) = false := by rw [bs_beq0]; decide
 have q5 : ((bs Kw.add.bytes).toList == [108, 111, 111, 112]) = false := by rw [bs_beq0]; decide
 have k0 : ((bs Ty.n.txt).toList == [110]) = true := by rw [bs_beq0]; decide
 have k1 : ((bs Ty.n.txt).toList == [110]) = true := by rw [bs_beq0]; decide
 have hh := fun w => halves_n w
 clear hy hx
 show Calls _ _ #[Value.pointer (some ⟨yb, 0, none⟩), Value.pointer (some ⟨xb, 0, none⟩), _] w _
 go_enter Tryd.func78, Tryd.ntmps78
 go_wp2_with (go_at_call 92; refine (hh _).mono ?_; rintro e w1 ⟨rfl, rfl⟩)
 go_ret
 exact ⟨rfl, made_ok (n := 0) HY.out⟩
set_option maxRecDepth 100000 in
set_option maxHeartbeats 1000000 in
theorem made_add_p (w : World) (yb xb : Nat) (cv nv tv ov kv : Value) (p : Nat) (nm : List UInt8) (px : Nat) (n : Int) (id last site : Nat) (hne : xb ≠ yb)
  (hy : w.heap[yb]? = some (.cells (tyCells cv nv tv ov 0 p) 55 (0, 0)))
  (hx : w.heap[xb]? = some (.cells (exCells Kw.add.bytes px nm n kv id last site) 52 (0, 0)))
  (r : Nat) (a b u : Ty) (hs : (Ty.p r a b).txt.length ≤ 100000) :
  Calls Tryd.prog 78 #[ptr yb, ptr xb, .agg #[.string (bs (Ty.p r a b).txt), .string (bs u.txt), .string (bs [])]] w fun v w' => v = .returned (.string (bs [110])) ∧ w.grownBy w' (some yb) ∧ w'.heap[yb]? = some (.cells (tyCells cv nv tv ov 5 px) 55 (0, 0)) := by
 have x0 : w.cell? ⟨xb, 0, none⟩ = some (.string (bs Kw.add.bytes)) := by rw [blk_cell hx]; rfl
 have hxb := blk_lt hx
 have HY : Hid _ := hy
 have HX : Hid _ := hx
 have q0 : ((bs Kw.add.bytes).toList == [110, 101, 119]) = false := by rw [bs_beq0]; decide
 have q1 : ((bs Kw.add.bytes).toList == [112, 97, 105, 114]) = false := by rw [bs_beq0]; decide
 have q2 : ((bs Kw.add.bytes).toList == [102, 115, 116]) = false := by rw [bs_beq0]; decide
 have q3 : ((bs Kw.add.bytes).toList == [115, 110, 100]) = false := by rw [bs_beq0]; decide
 have q4 : ((bs Kw.add.bytes).toList == [105, 102]) = false := by rw [bs_beq0]; decide
 have q5 : ((bs Kw.add.bytes).toList == [108, 111, 111, 112]) = false := by rw [bs_beq0]; decide
 have k0 : ((bs (Ty.p r a b).txt).toList == [110]) = false := by rw [bs_beq0]; simp [Ty.txt]
 have hh := fun w => halves_p r a b w hs
 have her := fun (o : Obj) (m : Nat) => err_any ((w.alloc o).drewN m) yb xb cv nv tv ov kv 0 p 5 _ nm px n id last site hne (blk_alloc o hy) (blk_alloc o hx)
 unfold ptr at her
 clear hy hx
 show Calls _ _ #[Value.pointer (some ⟨yb, 0, none⟩), Value.pointer (some ⟨xb, 0, none⟩), _] w _
 go_enter Tryd.func78, Tryd.ntmps78
 go_wp2_with (first
  | (go_at_call 92; refine (hh _).mono ?_; rintro e w1 ⟨rfl, n1, rfl⟩)
  | (go_at_call 65; refine (her _ _).mono ?_; rintro e w2 ⟨rfl, hg1, hy1⟩))
 go_ret
 exact ⟨rfl, gr_trans (grew_of (below_box _ _ n1) _) hg1, hy1⟩
set_option maxRecDepth 100000 in
set_option maxHeartbeats 1000000 in
theorem made_add_q (w : World) (yb xb : Nat) (cv nv tv ov kv : Value) (p : Nat) (nm : List UInt8) (px : Nat) (n : Int) (id last site : Nat) (hne : xb ≠ yb)
  (hy : w.heap[yb]? = some (.cells (tyCells cv nv tv ov 0 p) 55 (0, 0)))
  (hx : w.heap[xb]? = some (.cells (exCells Kw.add.bytes px nm n kv id last site) 52 (0, 0)))
  (r : Nat) (a b : Ty) :
  Calls Tryd.prog 78 #[ptr yb, ptr xb, .agg #[.string (bs Ty.n.txt), .string (bs (Ty.p r a b).txt), .string (bs [])]] w fun v w' => v = .returned (.string (bs [110])) ∧ w.grownBy w' (some yb) ∧ w'.heap[yb]? = some (.cells (tyCells cv nv tv ov 5 px) 55 (0, 0)) := by
 have x0 : w.cell? ⟨xb, 0, none⟩ = some (.string (bs Kw.add.bytes)) := by rw [blk_cell hx]; rfl
 have hxb := blk_lt hx
 have HY : Hid _ := hy
 have HX : Hid _ := hx
 have q0 : ((bs Kw.add.bytes).toList == [110, 101, 119]) = false := by rw [bs_beq0]; decide
 have q1 : ((bs Kw.add.bytes).toList == [112, 97, 105, 114]) = false := by rw [bs_beq0]; decide
 have q2 : ((bs Kw.add.bytes).toList == [102, 115, 116]) = false := by rw [bs_beq0]; decide
 have q3 : ((bs Kw.add.bytes).toList == [115, 110, 100]) = false := by rw [bs_beq0]; decide
 have q4 : ((bs Kw.add.bytes).toList == [105, 102]) = false := by rw [bs_beq0]; decide
 have q5 : ((bs Kw.add.bytes).toList == [108, 111, 111, 112]) = false := by rw [bs_beq0]; decide
 have k0 : ((bs Ty.n.txt).toList == [110]) = true := by rw [bs_beq0]; decide
 have k1 : ((bs (Ty.p r a b).txt).toList == [110]) = false := by rw [bs_beq0]; simp [Ty.txt]
 have hh := fun w => halves_n w
 have her := fun (o : Obj) => err_any (w.alloc o) yb xb cv nv tv ov kv 0 p 5 _ nm px n id last site hne (blk_alloc o hy) (blk_alloc o hx)
 unfold ptr at her
 clear hy hx
 show Calls _ _ #[Value.pointer (some ⟨yb, 0, none⟩), Value.pointer (some ⟨xb, 0, none⟩), _] w _
 go_enter Tryd.func78, Tryd.ntmps78
 go_wp2_with (first
  | (go_at_call 92; refine (hh _).mono ?_; rintro e w1 ⟨rfl, rfl⟩)
  | (go_at_call 65; refine (her _).mono ?_; rintro e w2 ⟨rfl, hg1, hy1⟩))
 go_ret
 exact ⟨rfl, gr_trans (grew_of (below_box _ _ 0) _) hg1, hy1⟩
set_option maxRecDepth 100000 in
set_option maxHeartbeats 1000000 in
theorem made_sub_ok (w : World) (yb xb : Nat) (cv nv tv ov kv : Value) (p : Nat) (nm : List UInt8) (px : Nat) (n : Int) (id last site : Nat)
  (hy : w.heap[yb]? = some (.cells (tyCells cv nv tv ov 0 p) 55 (0, 0)))
  (hx : w.heap[xb]? = some (.cells (exCells Kw.sub.bytes px nm n kv id last site) 52 (0, 0))) :
  Calls Tryd.prog 78 #[ptr yb, ptr xb, .agg #[.string (bs Ty.n.txt), .string (bs Ty.n.txt), .string (bs [])]] w fun v w' => v = .returned (.string (bs [110])) ∧ w.grownBy w' (some yb) ∧ w'.heap[yb]? = some (.cells (tyCells cv nv tv ov 0 p) 55 (0, 0)) := by
 have x0 : w.cell? ⟨xb, 0, none⟩ = some (.string (bs Kw.sub.bytes)) := by rw [blk_cell hx]; rfl
 have hxb := blk_lt hx
 have HY : Hid _ := hy
 have HX : Hid _ := hx
 have q0 : ((bs Kw.sub.bytes).toList == [110, 101, 119]) = false := by rw [bs_beq0]; decide
 have q1 : ((bs Kw.sub.bytes).toList == [112, 97, 105, 114]) = false := by rw [bs_beq0]; decide
 have q2 : ((bs Kw.sub.bytes).toList == [102, 115, 116]) = false := by rw [bs_beq0]; decide
 have q3 : ((bs Kw.sub.bytes).toList == [115, 110, 100]) = false := by rw [bs_beq0]; decide
 have q4 : ((bs Kw.sub.bytes).toList == [105, 102]) = false := by rw [bs_beq0]; decide
 have q5 : ((bs Kw.sub.bytes).toList == [108, 111, 111, 112]) = false := by rw [bs_beq0]; decide
 have k0 : ((bs Ty.n.txt).toList == [110]) = true := by rw [bs_beq0]; decide
 have k1 : ((bs Ty.n.txt).toList == [110]) = true := by rw [bs_beq0]; decide
 have hh := fun w => halves_n w
 clear hy hx
 show Calls _ _ #[Value.pointer (some ⟨yb, 0, none⟩), Value.pointer (some ⟨xb, 0, none⟩), _] w _
 go_enter Tryd.func78, Tryd.ntmps78
 go_wp2_with (go_at_call 92; refine (hh _).mono ?_; rintro e w1 ⟨rfl, rfl⟩)
 go_ret
 exact ⟨rfl, made_ok (n := 0) HY.out⟩
set_option maxRecDepth 100000 in
set_option maxHeartbeats 1000000 in
theorem made_sub_p (w : World) (yb xb : Nat) (cv nv tv ov kv : Value) (p : Nat) (nm : List UInt8) (px : Nat) (n : Int) (id last site : Nat) (hne : xb ≠ yb)
  (hy : w.heap[yb]? = some (.cells (tyCells cv nv tv ov 0 p) 55 (0, 0)))
  (hx : w.heap[xb]? = some (.cells (exCells Kw.sub.bytes px nm n kv id last site) 52 (0, 0)))
  (r : Nat) (a b u : Ty) (hs : (Ty.p r a b).txt.length ≤ 100000) :
  Calls Tryd.prog 78 #[ptr yb, ptr xb, .agg #[.string (bs (Ty.p r a b).txt), .string (bs u.txt), .string (bs [])]] w fun v w' => v = .returned (.string (bs [110])) ∧ w.grownBy w' (some yb) ∧ w'.heap[yb]? = some (.cells (tyCells cv nv tv ov 5 px) 55 (0, 0)) := by
 have x0 : w.cell? ⟨xb, 0, none⟩ = some (.string (bs Kw.sub.bytes)) := by rw [blk_cell hx]; rfl
 have hxb := blk_lt hx
 have HY : Hid _ := hy
 have HX : Hid _ := hx
 have q0 : ((bs Kw.sub.bytes).toList == [110, 101, 119]) = false := by rw [bs_beq0]; decide
 have q1 : ((bs Kw.sub.bytes).toList == [112, 97, 105, 114]) = false := by rw [bs_beq0]; decide
 have q2 : ((bs Kw.sub.bytes).toList == [102, 115, 116]) = false := by rw [bs_beq0]; decide
 have q3 : ((bs Kw.sub.bytes).toList == [115, 110, 100]) = false := by rw [bs_beq0]; decide
 have q4 : ((bs Kw.sub.bytes).toList == [105, 102]) = false := by rw [bs_beq0]; decide
 have q5 : ((bs Kw.sub.bytes).toList == [108, 111, 111, 112]) = false := by rw [bs_beq0]; decide
 have k0 : ((bs (Ty.p r a b).txt).toList == [110]) = false := by rw [bs_beq0]; simp [Ty.txt]
 have hh := fun w => halves_p r a b w hs
 have her := fun (o : Obj) (m : Nat) => err_any ((w.alloc o).drewN m) yb xb cv nv tv ov kv 0 p 5 _ nm px n id last site hne (blk_alloc o hy) (blk_alloc o hx)
 unfold ptr at her
 clear hy hx
 show Calls _ _ #[Value.pointer (some ⟨yb, 0, none⟩), Value.pointer (some ⟨xb, 0, none⟩), _] w _
 go_enter Tryd.func78, Tryd.ntmps78
 go_wp2_with (first
  | (go_at_call 92; refine (hh _).mono ?_; rintro e w1 ⟨rfl, n1, rfl⟩)
  | (go_at_call 65; refine (her _ _).mono ?_; rintro e w2 ⟨rfl, hg1, hy1⟩))
 go_ret
 exact ⟨rfl, gr_trans (grew_of (below_box _ _ n1) _) hg1, hy1⟩
set_option maxRecDepth 100000 in
set_option maxHeartbeats 1000000 in
theorem made_sub_q (w : World) (yb xb : Nat) (cv nv tv ov kv : Value) (p : Nat) (nm : List UInt8) (px : Nat) (n : Int) (id last site : Nat) (hne : xb ≠ yb)
  (hy : w.heap[yb]? = some (.cells (tyCells cv nv tv ov 0 p) 55 (0, 0)))
  (hx : w.heap[xb]? = some (.cells (exCells Kw.sub.bytes px nm n kv id last site) 52 (0, 0)))
  (r : Nat) (a b : Ty) :
  Calls Tryd.prog 78 #[ptr yb, ptr xb, .agg #[.string (bs Ty.n.txt), .string (bs (Ty.p r a b).txt), .string (bs [])]] w fun v w' => v = .returned (.string (bs [110])) ∧ w.grownBy w' (some yb) ∧ w'.heap[yb]? = some (.cells (tyCells cv nv tv ov 5 px) 55 (0, 0)) := by
 have x0 : w.cell? ⟨xb, 0, none⟩ = some (.string (bs Kw.sub.bytes)) := by rw [blk_cell hx]; rfl
 have hxb := blk_lt hx
 have HY : Hid _ := hy
 have HX : Hid _ := hx
 have q0 : ((bs Kw.sub.bytes).toList == [110, 101, 119]) = false := by rw [bs_beq0]; decide
 have q1 : ((bs Kw.sub.bytes).toList == [112, 97, 105, 114]) = false := by rw [bs_beq0]; decide
 have q2 : ((bs Kw.sub.bytes).toList == [102, 115, 116]) = false := by rw [bs_beq0]; decide
 have q3 : ((bs Kw.sub.bytes).toList == [115, 110, 100]) = false := by rw [bs_beq0]; decide
 have q4 : ((bs Kw.sub.bytes).toList == [105, 102]) = false := by rw [bs_beq0]; decide
 have q5 : ((bs Kw.sub.bytes).toList == [108, 111, 111, 112]) = false := by rw [bs_beq0]; decide
 have k0 : ((bs Ty.n.txt).toList == [110]) = true := by rw [bs_beq0]; decide
 have k1 : ((bs (Ty.p r a b).txt).toList == [110]) = false := by rw [bs_beq0]; simp [Ty.txt]
 have hh := fun w => halves_n w
 have her := fun (o : Obj) => err_any (w.alloc o) yb xb cv nv tv ov kv 0 p 5 _ nm px n id last site hne (blk_alloc o hy) (blk_alloc o hx)
 unfold ptr at her
 clear hy hx
 show Calls _ _ #[Value.pointer (some ⟨yb, 0, none⟩), Value.pointer (some ⟨xb, 0, none⟩), _] w _
 go_enter Tryd.func78, Tryd.ntmps78
 go_wp2_with (first
  | (go_at_call 92; refine (hh _).mono ?_; rintro e w1 ⟨rfl, rfl⟩)
  | (go_at_call 65; refine (her _).mono ?_; rintro e w2 ⟨rfl, hg1, hy1⟩))
 go_ret
 exact ⟨rfl, gr_trans (grew_of (below_box _ _ 0) _) hg1, hy1⟩
set_option maxRecDepth 100000 in
set_option maxHeartbeats 1000000 in
theorem made_less_ok (w : World) (yb xb : Nat) (cv nv tv ov kv : Value) (p : Nat) (nm : List UInt8) (px : Nat) (n : Int) (id last site : Nat)
  (hy : w.heap[yb]? = some (.cells (tyCells cv nv tv ov 0 p) 55 (0, 0)))
  (hx : w.heap[xb]? = some (.cells (exCells Kw.less.bytes px nm n kv id last site) 52 (0, 0))) :
  Calls Tryd.prog 78 #[ptr yb, ptr xb, .agg #[.string (bs Ty.n.txt), .string (bs Ty.n.txt), .string (bs [])]] w fun v w' => v = .returned (.string (bs [110])) ∧ w.grownBy w' (some yb) ∧ w'.heap[yb]? = some (.cells (tyCells cv nv tv ov 0 p) 55 (0, 0)) := by
 have x0 : w.cell? ⟨xb, 0, none⟩ = some (.string (bs Kw.less.bytes)) := by rw [blk_cell hx]; rfl
 have hxb := blk_lt hx
 have HY : Hid _ := hy
 have HX : Hid _ := hx
 have q0 : ((bs Kw.less.bytes).toList == [110, 101, 119]) = false := by rw [bs_beq0]; decide
 have q1 : ((bs Kw.less.bytes).toList == [112, 97, 105, 114]) = false := by rw [bs_beq0]; decide
 have q2 : ((bs Kw.less.bytes).toList == [102, 115, 116]) = false := by rw [bs_beq0]; decide
 have q3 : ((bs Kw.less.bytes).toList == [115, 110, 100]) = false := by rw [bs_beq0]; decide
 have q4 : ((bs Kw.less.bytes).toList == [105, 102]) = false := by rw [bs_beq0]; decide
 have q5 : ((bs Kw.less.bytes).toList == [108, 111, 111, 112]) = false := by rw [bs_beq0]; decide
 have k0 : ((bs Ty.n.txt).toList == [110]) = true := by rw [bs_beq0]; decide
 have k1 : ((bs Ty.n.txt).toList == [110]) = true := by rw [bs_beq0]; decide
 have hh := fun w => halves_n w
 clear hy hx
 show Calls _ _ #[Value.pointer (some ⟨yb, 0, none⟩), Value.pointer (some ⟨xb, 0, none⟩), _] w _
 go_enter Tryd.func78, Tryd.ntmps78
 go_wp2_with (go_at_call 92; refine (hh _).mono ?_; rintro e w1 ⟨rfl, rfl⟩)
 go_ret
 exact ⟨rfl, made_ok (n := 0) HY.out⟩
set_option maxRecDepth 100000 in
set_option maxHeartbeats 1000000 in
theorem made_less_p (w : World) (yb xb : Nat) (cv nv tv ov kv : Value) (p : Nat) (nm : List UInt8) (px : Nat) (n : Int) (id last site : Nat) (hne : xb ≠ yb)
  (hy : w.heap[yb]? = some (.cells (tyCells cv nv tv ov 0 p) 55 (0, 0)))
  (hx : w.heap[xb]? = some (.cells (exCells Kw.less.bytes px nm n kv id last site) 52 (0, 0)))
  (r : Nat) (a b u : Ty) (hs : (Ty.p r a b).txt.length ≤ 100000) :
  Calls Tryd.prog 78 #[ptr yb, ptr xb, .agg #[.string (bs (Ty.p r a b).txt), .string (bs u.txt), .string (bs [])]] w fun v w' => v = .returned (.string (bs [110])) ∧ w.grownBy w' (some yb) ∧ w'.heap[yb]? = some (.cells (tyCells cv nv tv ov 5 px) 55 (0, 0)) := by
 have x0 : w.cell? ⟨xb, 0, none⟩ = some (.string (bs Kw.less.bytes)) := by rw [blk_cell hx]; rfl
 have hxb := blk_lt hx
 have HY : Hid _ := hy
 have HX : Hid _ := hx
 have q0 : ((bs Kw.less.bytes).toList == [110, 101, 119]) = false := by rw [bs_beq0]; decide
 have q1 : ((bs Kw.less.bytes).toList == [112, 97, 105, 114]) = false := by rw [bs_beq0]; decide
 have q2 : ((bs Kw.less.bytes).toList == [102, 115, 116]) = false := by rw [bs_beq0]; decide
 have q3 : ((bs Kw.less.bytes).toList == [115, 110, 100]) = false := by rw [bs_beq0]; decide
 have q4 : ((bs Kw.less.bytes).toList == [105, 102]) = false := by rw [bs_beq0]; decide
 have q5 : ((bs Kw.less.bytes).toList == [108, 111, 111, 112]) = false := by rw [bs_beq0]; decide
 have k0 : ((bs (Ty.p r a b).txt).toList == [110]) = false := by rw [bs_beq0]; simp [Ty.txt]
 have hh := fun w => halves_p r a b w hs
 have her := fun (o : Obj) (m : Nat) => err_any ((w.alloc o).drewN m) yb xb cv nv tv ov kv 0 p 5 _ nm px n id last site hne (blk_alloc o hy) (blk_alloc o hx)
 unfold ptr at her
 clear hy hx
 show Calls _ _ #[Value.pointer (some ⟨yb, 0, none⟩), Value.pointer (some ⟨xb, 0, none⟩), _] w _
 go_enter Tryd.func78, Tryd.ntmps78
 go_wp2_with (first
  | (go_at_call 92; refine (hh _).mono ?_; rintro e w1 ⟨rfl, n1, rfl⟩)
  | (go_at_call 65; refine (her _ _).mono ?_; rintro e w2 ⟨rfl, hg1, hy1⟩))
 go_ret
 exact ⟨rfl, gr_trans (grew_of (below_box _ _ n1) _) hg1, hy1⟩
set_option maxRecDepth 100000 in
set_option maxHeartbeats 1000000 in
theorem made_less_q (w : World) (yb xb : Nat) (cv nv tv ov kv : Value) (p : Nat) (nm : List UInt8) (px : Nat) (n : Int) (id last site : Nat) (hne : xb ≠ yb)
  (hy : w.heap[yb]? = some (.cells (tyCells cv nv tv ov 0 p) 55 (0, 0)))
  (hx : w.heap[xb]? = some (.cells (exCells Kw.less.bytes px nm n kv id last site) 52 (0, 0)))
  (r : Nat) (a b : Ty) :
  Calls Tryd.prog 78 #[ptr yb, ptr xb, .agg #[.string (bs Ty.n.txt), .string (bs (Ty.p r a b).txt), .string (bs [])]] w fun v w' => v = .returned (.string (bs [110])) ∧ w.grownBy w' (some yb) ∧ w'.heap[yb]? = some (.cells (tyCells cv nv tv ov 5 px) 55 (0, 0)) := by
 have x0 : w.cell? ⟨xb, 0, none⟩ = some (.string (bs Kw.less.bytes)) := by rw [blk_cell hx]; rfl
 have hxb := blk_lt hx
 have HY : Hid _ := hy
 have HX : Hid _ := hx
 have q0 : ((bs Kw.less.bytes).toList == [110, 101, 119]) = false := by rw [bs_beq0]; decide
 have q1 : ((bs Kw.less.bytes).toList == [112, 97, 105, 114]) = false := by rw [bs_beq0]; decide
 have q2 : ((bs Kw.less.bytes).toList == [102, 115, 116]) = false := by rw [bs_beq0]; decide
 have q3 : ((bs Kw.less.bytes).toList == [115, 110, 100]) = false := by rw [bs_beq0]; decide
 have q4 : ((bs Kw.less.bytes).toList == [105, 102]) = false := by rw [bs_beq0]; decide
 have q5 : ((bs Kw.less.bytes).toList == [108, 111, 111, 112]) = false := by rw [bs_beq0]; decide
 have k0 : ((bs Ty.n.txt).toList == [110]) = true := by rw [bs_beq0]; decide
 have k1 : ((bs (Ty.p r a b).txt).toList == [110]) = false := by rw [bs_beq0]; simp [Ty.txt]
 have hh := fun w => halves_n w
 have her := fun (o : Obj) => err_any (w.alloc o) yb xb cv nv tv ov kv 0 p 5 _ nm px n id last site hne (blk_alloc o hy) (blk_alloc o hx)
 unfold ptr at her
 clear hy hx
 show Calls _ _ #[Value.pointer (some ⟨yb, 0, none⟩), Value.pointer (some ⟨xb, 0, none⟩), _] w _
 go_enter Tryd.func78, Tryd.ntmps78
 go_wp2_with (first
  | (go_at_call 92; refine (hh _).mono ?_; rintro e w1 ⟨rfl, rfl⟩)
  | (go_at_call 65; refine (her _).mono ?_; rintro e w2 ⟨rfl, hg1, hy1⟩))
 go_ret
 exact ⟨rfl, gr_trans (grew_of (below_box _ _ 0) _) hg1, hy1⟩
end Go.Proofs.YtpicaknklgccoaaDoor
