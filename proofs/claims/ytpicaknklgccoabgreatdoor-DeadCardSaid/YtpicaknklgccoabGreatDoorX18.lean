import Derived.Test.YtpicaknklgccoabGreatDoorX16
import Derived.Test.YtpicaknklgccoabGreatDoorX13
import Derived.Test.YtpicaknklgccoabGreatDoorX17
import Derived.Test.YtpicaknklgccoabGreatDoorX1
import Derived.Lib.SlBytesRow
import Derived.Lib.BufferRead
import Derived.Test.YtpicaknklgccoabGreatDoorX7
namespace Go.Proofs.YtpicaknklgccoabGreatDoor
open Go.Lib (decDigits)
theorem ofNat_toNat8 (n : Nat) (h : n < 256) : (UInt8.ofNat n).toNat = n := by simp; omega
theorem value_dec (u : Nat) : valueL (decDigits u) = u := by
 induction u using Nat.strongRecOn with
 | _ u ih =>
  rw [decDigits]
  split
  ·rename_i h
   have e : (UInt8.ofNat (48 + u)).toNat = 48 + u := ofNat_toNat8 _ (by omega)
   have hne : UInt8.ofNat (48 + u) ≠ 35 := by intro hc; rw [hc] at e; simp at e; omega
   simp only [valueL, List.foldl_cons, List.foldl_nil, if_neg hne, e]; omega
  ·rename_i h
   have e : (UInt8.ofNat (48 + u % 10)).toNat = 48 + u % 10 := ofNat_toNat8 _ (by omega)
   have hne : UInt8.ofNat (48 + u % 10) ≠ 35 := by intro hc; rw [hc] at e; simp at e; omega
   rw [valueL_snoc, if_neg hne, ih _ (by omega), e]; omega
theorem dec_ne (u : Nat) : decDigits u ≠ [] := by rw [decDigits]; split <;> simp
theorem dec_head (u : Nat) (h : 0 < u) : (decDigits u).head? ≠ some 48 := by
 induction u using Nat.strongRecOn with
 | _ u ih =>
  rw [decDigits]
  split
  ·rename_i h1
   have e : (UInt8.ofNat (48 + u)).toNat = 48 + u := ofNat_toNat8 _ (by omega)
   intro hc
   simp only [List.head?_cons, Option.some.injEq] at hc
   rw [hc] at e; simp at e; omega
  ·rename_i h1
   have := ih (u / 10) (by omega) (by omega)
   cases hd : decDigits (u / 10) with
   | nil => exact absurd hd (dec_ne _)
   | cons a r => rw [hd] at this; simpa using this
theorem dec_good (u m : Nat) (h : (decDigits u).length ≤ m) : GoodD (decDigits u) m := by
 refine ⟨fun c hc => ?_, ?_⟩
 ·have := dec_digit u c hc
  unfold digitB at this
  simp only [Bool.and_eq_true, decide_eq_true_eq] at this
  unfold inB
  simp only [Bool.and_eq_true, decide_eq_true_eq]
  omega
 ·unfold numeralB
  have hp : 0 < (decDigits u).length := List.length_pos_iff.2 (dec_ne u)
  have hl : (decDigits u).length = 1 ∨ (decDigits u).head? ≠ some 48 := by
   rcases Nat.eq_zero_or_pos u with rfl | hu
   ·left; rw [decDigits]; simp
   ·exact Or.inr (dec_head u hu)
  simp only [Bool.and_eq_true, Bool.or_eq_true, decide_eq_true_eq, bne_iff_ne]
  exact ⟨⟨hp, h⟩, hl⟩
theorem dec_len2 (u : Nat) (h : u ≤ 99) : (decDigits u).length ≤ 2 := by
 rw [decDigits]; split
 ·simp
 ·rw [decDigits]; split
  ·simp
  ·omega
theorem dec_len3 (u : Nat) (h : u ≤ 999) : (decDigits u).length ≤ 3 := by
 rw [decDigits]; split
 ·simp
 ·rw [decDigits]; split
  ·simp
  ·rw [decDigits]; split
   ·simp
   ·omega
def nameL (n : Nat) : List UInt8 := [UInt8.ofNat (97 + n / 26 % 26), UInt8.ofNat (97 + n % 26), 118]
theorem nameL_inj {a b : Nat} (ha : a < 676) (hb : b < 676) (h : nameL a = nameL b) : a = b := by
 simp only [nameL, List.cons.injEq, and_true] at h
 have h1 := congrArg UInt8.toNat h.1
 have h2 := congrArg UInt8.toNat h.2
 rw [ofNat_toNat8 _ (by omega), ofNat_toNat8 _ (by omega)] at h1 h2
 omega
theorem nameL_good (n : Nat) : GoodN (nameL n) := by
 refine ⟨by simp [nameL], fun c hc => ?_, by simp [nameL], ?_⟩
 ·simp only [nameL, List.mem_cons, List.not_mem_nil, or_false] at hc
  have e1 : (UInt8.ofNat (97 + n / 26 % 26)).toNat = 97 + n / 26 % 26 := ofNat_toNat8 _ (by omega)
  have e2 : (UInt8.ofNat (97 + n % 26)).toNat = 97 + n % 26 := ofNat_toNat8 _ (by omega)
  unfold inB
  simp only [Bool.and_eq_true, decide_eq_true_eq]
  rcases hc with rfl | rfl | rfl
  ·omega
  ·omega
  ·decide
 ·cases h : kwOf (nameL n) with
  | none => rfl
  | some k =>
   have := kwOf_some h
   cases k <;> simp [nameL, Kw.bytes] at this
def bindN (k : Kw) (n : Nat) : List UInt8 := if k = .let_ ∨ k = .loop then nameL n else []
def KE.pt (rg : List UInt8) : KE → PT
 | .num n => .num 0 (decDigits n)
 | .var n => .name 0 (nameL n)
 | .n1 k a => .node 0 k [] [] [a.pt rg]
 | .n2 k n a b => .node 0 k (bindN k n) (if k = .pair then rg else []) [a.pt rg, b.pt rg]
 | .n3 k n a b c => .node 0 k (bindN k n) [] [a.pt rg, b.pt rg, c.pt rg]
theorem pt_np (rg : List UInt8) : ∀ x : KE, (x.pt rg).np = x.pt rg
 | .num _ => rfl
 | .var _ => rfl
 | .n1 _ a => by simp only [KE.pt, PT.np, npL, pt_np rg a]
 | .n2 _ _ a b => by simp only [KE.pt, PT.np, npL, pt_np rg a, pt_np rg b]
 | .n3 _ _ a b c => by simp only [KE.pt, PT.np, npL, pt_np rg a, pt_np rg b, pt_np rg c]
theorem pt_prs (rg : List UInt8) : ∀ {vs : List Nat} {x : KE} {t : Nat}, KT vs x t → (x.pt rg).prs = x.prs := by
 intro vs x t h
 induction h with
 | num _ => rfl
 | var _ => rfl
 | let_ _ _ _ _ ha hb => simp [KE.pt, PT.prs, prsL, KE.prs, ha, hb]
 | if_ _ _ _ ha hb hc => simp [KE.pt, PT.prs, prsL, KE.prs, ha, hb, hc]; omega
 | loop _ _ _ _ ha hb hc => simp [KE.pt, PT.prs, prsL, KE.prs, ha, hb, hc]; omega
 | pair _ _ _ _ ha hb => simp [KE.pt, PT.prs, prsL, KE.prs, ha, hb]; omega
 | fst _ _ _ ha => simp [KE.pt, PT.prs, prsL, KE.prs, ha]
 | snd _ _ _ ha => simp [KE.pt, PT.prs, prsL, KE.prs, ha]
 | two hk _ _ ha hb => rcases hk with rfl | rfl | rfl <;> simp [KE.pt, PT.prs, prsL, KE.prs, ha, hb]
def RgOk (placed : Bool) (rg : List UInt8) : Prop := if placed = true then ∃ d, rg = 35 :: d ∧ GoodD d 3 else rg = []
theorem pt_ok {placed : Bool} {rg : List UInt8} (hr : RgOk placed rg) : ∀ {vs : List Nat} {x : KE} {t : Nat}, KT vs x t → (x.pt rg).ok placed := by
 intro vs x t h
 unfold RgOk at hr
 induction h with
 | num h => simp only [KE.pt, PT.ok]; exact dec_good _ 4 (Nat.le_trans (dec_len2 _ (by omega)) (by omega))
 | var _ => simp only [KE.pt, PT.ok]; exact nameL_good _
 | let_ _ _ _ _ ha hb => simp [KE.pt, PT.ok, okL, bindN, wantsK, arity, nameL_good, ha, hb]
 | if_ _ _ _ ha hb hc => simp [KE.pt, PT.ok, okL, bindN, wantsK, arity, ha, hb, hc]
 | loop _ _ _ _ ha hb hc => simp [KE.pt, PT.ok, okL, bindN, wantsK, arity, nameL_good, ha, hb, hc]
 | pair _ _ _ _ ha hb =>
  cases placed with
  | true => simp [KE.pt, PT.ok, okL, bindN, wantsK, arity, ha, hb]; simpa using hr
  | false => simp [KE.pt, PT.ok, okL, bindN, wantsK, arity, ha, hb]; simpa using hr
 | fst _ _ _ ha => simp [KE.pt, PT.ok, okL, wantsK, arity, ha]
 | snd _ _ _ ha => simp [KE.pt, PT.ok, okL, wantsK, arity, ha]
 | two hk _ _ ha hb => rcases hk with rfl | rfl | rfl <;> simp [KE.pt, PT.ok, okL, bindN, wantsK, arity, ha, hb]
theorem pt_len {rg : List UInt8} : ∀ {vs : List Nat} {x : KE} {t : Nat}, KT vs x t → (x.pt rg).tidy.length ≤ x.len + x.prs * (rg.length + 1) := by
 intro vs x t h
 induction h with
 | num h => simp only [KE.pt, PT.tidy, KE.len, KE.prs]; exact Nat.le_trans (dec_len2 _ (by omega)) (by omega)
 | var _ => simp [KE.pt, PT.tidy, KE.len, KE.prs, nameL]
 | let_ _ _ _ _ ha hb => simp [KE.pt, PT.tidy, tidyL, joinT, pieceT, KE.len, KE.prs, regT, bindN, nameL, Kw.bytes, Nat.add_mul]; omega
 | if_ _ _ _ ha hb hc => simp [KE.pt, PT.tidy, tidyL, joinT, pieceT, KE.len, KE.prs, regT, bindN, Kw.bytes, Nat.add_mul]; omega
 | loop _ _ _ _ ha hb hc => simp [KE.pt, PT.tidy, tidyL, joinT, pieceT, KE.len, KE.prs, regT, bindN, nameL, Kw.bytes, Nat.add_mul]; omega
 | pair _ _ _ _ ha hb =>
  simp only [KE.pt, PT.tidy, tidyL, joinT, pieceT, KE.len, KE.prs, regT, bindN, Kw.bytes, Nat.add_mul, if_true]
  by_cases hr : rg = []
  ·subst hr; simp; simp at ha hb; omega
  ·simp [hr]; omega
 | fst _ _ _ ha => simp [KE.pt, PT.tidy, tidyL, joinT, pieceT, KE.len, KE.prs, regT, Kw.bytes]; omega
 | snd _ _ _ ha => simp [KE.pt, PT.tidy, tidyL, joinT, pieceT, KE.len, KE.prs, regT, Kw.bytes]; omega
 | two hk _ _ ha hb => rcases hk with rfl | rfl | rfl <;> simp [KE.pt, PT.tidy, tidyL, joinT, pieceT, KE.len, KE.prs, regT, bindN, Kw.bytes, Nat.add_mul] <;> omega
def tyJ (t : Nat) : Ty := if t = 0 then .n else .p 0 .n .n
def tyZ (t : Nat) : Ty := if t = 0 then .n else .p 0 (tyJ (fT t)) (tyJ (sT t))
theorem tyZ_pair {t : Nat} (ht : t < 5) (h0 : t ≠ 0) : tyZ t = .p 0 (tyZ (fT t)) (tyZ (sT t)) := by
 match t, ht, h0 with
 | 1, _, _ => rfl
 | 2, _, _ => rfl
 | 3, _, _ => rfl
 | 4, _, _ => rfl
theorem tyZ_size (t : Nat) : (tyZ t).size ≤ 3 := by
 have hj : ∀ t, (tyJ t).size ≤ 1 := fun t => by unfold tyJ; split <;> simp [Ty.size]
 unfold tyZ
 split
 ·simp [Ty.size]
 ·have := hj (fT t); have := hj (sT t); simp only [Ty.size]; omega
theorem look_snoc' (env : TEnv) (nm s : List UInt8) (T : Ty) : look (env ++ [(nm, T)]) s = if nm = s then some T else look env s := by
 unfold look
 rw [List.reverse_append, List.reverse_singleton, List.singleton_append, List.find?_cons]
 by_cases h : nm = s
 ·subst h; simp
 ·have : (nm == s) = false := by rw [beq_eq_false_iff_ne]; exact h
  simp only [this, if_neg h]
theorem lookV_snoc' (env : VEnv) (nm s : List UInt8) (v : Vl) : lookV (env ++ [(nm, v)]) s = if nm = s then v else lookV env s := by
 unfold lookV
 rw [List.reverse_append, List.reverse_singleton, List.singleton_append, List.find?_cons]
 by_cases h : nm = s
 ·subst h; simp
 ·have : (nm == s) = false := by rw [beq_eq_false_iff_ne]; exact h
  simp only [this, if_neg h]
def envT (vs : List Nat) : TEnv := vs.mapIdx (fun i t => (nameL i, tyZ t))
def envV (vs : List Vl) : VEnv := vs.mapIdx (fun i v => (nameL i, v))
theorem envT_snoc (vs : List Nat) (t : Nat) : envT (vs ++ [t]) = envT vs ++ [(nameL vs.length, tyZ t)] := by unfold envT; rw [List.mapIdx_concat]
theorem envV_snoc (vs : List Vl) (v : Vl) : envV (vs ++ [v]) = envV vs ++ [(nameL vs.length, v)] := by unfold envV; rw [List.mapIdx_concat]
theorem look_envT (vs : List Nat) (n t : Nat) (h : vs[n]? = some t) (hl : vs.length ≤ 600) : look (envT vs) (nameL n) = some (tyZ t) := by
 have hn : n < vs.length := by
  rcases Nat.lt_or_ge n vs.length with h1 | h1
  ·exact h1
  ·rw [List.getElem?_eq_none h1] at h; cases h
 have key : ∀ k, n < k → k ≤ vs.length → look (envT (vs.take k)) (nameL n) = some (tyZ t) := by
  intro k
  induction k with
  | zero => intro h; omega
  | succ k ih =>
   intro h1 h2
   rw [List.take_succ_eq_append_getElem (by omega), envT_snoc, look_snoc', List.length_take, Nat.min_eq_left (by omega)]
   by_cases e : k = n
   ·subst e
    rw [if_pos rfl]
    rw [List.getElem?_eq_getElem (by omega)] at h
    simp only [Option.some.injEq] at h
    rw [h]
   ·rw [if_neg (fun hc => e (nameL_inj (by omega) (by omega) hc))]
    exact ih (by omega) (by omega)
 have := key vs.length hn (Nat.le_refl _)
 rwa [List.take_length] at this
theorem look_envV (vs : List Vl) (n : Nat) (hn : n < vs.length) (hl : vs.length ≤ 600) : lookV (envV vs) (nameL n) = vs[n] := by
 have key : ∀ k, n < k → k ≤ vs.length → lookV (envV (vs.take k)) (nameL n) = vs[n] := by
  intro k
  induction k with
  | zero => intro h; omega
  | succ k ih =>
   intro h1 h2
   rw [List.take_succ_eq_append_getElem (by omega), envV_snoc, lookV_snoc', List.length_take, Nat.min_eq_left (by omega)]
   by_cases e : k = n
   ·subst e; rw [if_pos rfl]
   ·rw [if_neg (fun hc => e (nameL_inj (by omega) (by omega) hc))]
    exact ih (by omega) (by omega)
 have := key vs.length hn (Nat.le_refl _)
 rwa [List.take_length] at this
theorem pt_WT {rg : List UInt8} : ∀ {vs : List Nat} {x : KE} {t : Nat}, KT vs x t → vs.length ≤ 100 → WT (envT vs) (x.pt rg) (tyZ t) := by
 intro vs x t h
 induction h with
 | num _ => intro _; exact .num
 | var h => intro hl; exact .name (look_envT _ _ _ h (by omega))
 | let_ _ hl _ _ ha hb => intro _; simp only [KE.pt]; exact .let_ (ha (by omega)) (by have := hb (by simp; omega); rw [envT_snoc] at this; simpa [bindN] using this)
 | if_ _ _ _ ha hb hc => intro hl; simp only [KE.pt]; exact .if_ (ha hl) (hb hl) (hc hl)
 | loop hl _ _ _ ha hb hc => intro _; simp only [KE.pt]; exact .loop (ha (by omega)) (hb (by omega)) (by have := hc (by simp; omega); rw [envT_snoc] at this; simpa [bindN] using this)
 | pair h0 ht _ _ ha hb =>
  intro hl
  simp only [KE.pt]
  have hs := tyZ_size ‹Nat›
  rw [tyZ_pair ht h0]
  exact .pair (ha hl) (hb hl) (by rw [← tyZ_pair ht h0]; have := tyZ_size ‹Nat›; omega)
 | fst h0 hp _ ha => intro hl; simp only [KE.pt]; have := ha hl; rw [tyZ_pair hp h0] at this; exact .fst this
 | snd h0 hp _ ha => intro hl; simp only [KE.pt]; have := ha hl; rw [tyZ_pair hp h0] at this; exact .snd this
 | two hk _ _ ha hb => intro hl; simp only [KE.pt]; exact .two hk (ha hl) (hb hl)
end Go.Proofs.YtpicaknklgccoabGreatDoor
namespace Go.Proofs.YtpicaknklgccoabGreatDoor
open Go.RowKit
open Go.Lib (decDigits)
theorem Tryz.undBytesZ : Tryz.prog.underlying 82 = some (.slice 5) := by kernel_rfl
theorem Tryz.undStrZ : Tryz.prog.underlying 9 = some .string := by kernel_rfl
theorem Tryz.undU8Z : Tryz.prog.underlying 5 = some (.int .u8) := by kernel_rfl
set_option maxRecDepth 100000 in
theorem kname_any (n : Nat) (hn : n ≤ 1000) (w : World) : Calls Tryz.prog 25 #[.int .i64 n] w fun e w' => e = .returned (.string (bs (nameL n))) ∧ Below w.heap.size w w' := by
 have hcv : (convert 82 9 (.slice (some ⟨w.heap.size, 0, none⟩) 3 3)).run Tryz.prog (w.alloc (.cells #[.int .u8 (97 + ((n / 26 % 26 : Nat) : Int)), .int .u8 (97 + ((n % 26 : Nat) : Int)), .int .u8 118] 5 (0, 0))) = .ok (.string (bs (nameL n))) (w.alloc (.cells #[.int .u8 (97 + ((n / 26 % 26 : Nat) : Int)), .int .u8 (97 + ((n % 26 : Nat) : Int)), .int .u8 118] 5 (0, 0))) := by
  refine Lib.run_convert_whole (P := Tryz.prog) _ _ _ _ Tryz.undBytesZ Tryz.undU8Z Tryz.undStrZ w.heap.size 0 (bs (nameL n)) ?_ 3
  intro i hi
  have hi3 : i < 3 := hi
  have e1 : (UInt8.ofNat (97 + n / 26 % 26)).toNat = 97 + n / 26 % 26 := ofNat_toNat8 _ (by omega)
  have e2 : (UInt8.ofNat (97 + n % 26)).toNat = 97 + n % 26 := ofNat_toNat8 _ (by omega)
  rw [blk_cell (blk_new w _)]
  match i, hi3 with
  | 0, _ =>
   show some (Value.int .u8 (97 + ((n / 26 % 26 : Nat) : Int))) = some (Value.int .u8 ((UInt8.ofNat (97 + n / 26 % 26)).toNat : Int))
   rw [e1]; rfl
  | 1, _ =>
   show some (Value.int .u8 (97 + ((n % 26 : Nat) : Int))) = some (Value.int .u8 ((UInt8.ofNat (97 + n % 26)).toNat : Int))
   rw [e2]; rfl
  | 2, _ => rfl
 obtain ⟨a, ha⟩ : ∃ a, a = n / 26 % 26 := ⟨_, rfl⟩
 obtain ⟨b, hb⟩ : ∃ b, b = n % 26 := ⟨_, rfl⟩
 have hal : a < 26 := by omega
 have hbl : b < 26 := by omega
 have e1 : (n : Int) / 26 % 26 = (a : Int) := by omega
 have e2 : (n : Int) % 26 = (b : Int) := by omega
 rw [← ha, ← hb] at hcv
 clear ha hb
 go_enter Tryz.func25, Tryz.ntmps25
 go_wp2
 go_ret
 exact ⟨rfl, below_alZ (Below.refl _ _) _⟩
def accZ (pre : List UInt8) (k : Kw) (nm : List UInt8) (ts : List (List UInt8)) (j : Nat) : List UInt8 := pre ++ joinT k nm 0 (ts.take j)
theorem accZ_succ (pre : List UInt8) (k : Kw) (nm : List UInt8) (ts : List (List UInt8)) (j : Nat) (x : List UInt8) (hx : ts[j]? = some x) : accZ pre k nm ts (j + 1) = accZ pre k nm ts j ++ pieceT k nm j x := by
 have hj : j < ts.length := by
  rcases Nat.lt_or_ge j ts.length with h | h
  ·exact h
  ·rw [List.getElem?_eq_none h] at hx; cases hx
 unfold accZ
 rw [List.take_add_one, hx, Option.toList_some, joinT_snoc, List.length_take, Nat.min_eq_left (by omega), Nat.zero_add, List.append_assoc]
theorem joinT_app (k : Kw) (nm : List UInt8) : ∀ (a b : List (List UInt8)) (i : Nat), joinT k nm i (a ++ b) = joinT k nm i a ++ joinT k nm (i + a.length) b
 | [], b, i => by simp [joinT]
 | x :: r, b, i => by
  simp only [List.cons_append, joinT, joinT_app k nm r b (i + 1), List.append_assoc, List.length_cons]
  rw [show i + 1 + r.length = i + (r.length + 1) by omega]
theorem accZ_le (pre : List UInt8) (k : Kw) (nm : List UInt8) (ts : List (List UInt8)) (j : Nat) : (accZ pre k nm ts j).length ≤ pre.length + (joinT k nm 0 ts).length := by
 unfold accZ
 have h : joinT k nm 0 ts = joinT k nm 0 (ts.take j) ++ joinT k nm (0 + (ts.take j).length) (ts.drop j) := by rw [← joinT_app, List.take_append_drop]
 rw [h]; simp
theorem joinT_mem (k : Kw) (nm : List UInt8) : ∀ (ts : List (List UInt8)) (i : Nat) (x : List UInt8), x ∈ ts → x.length + 1 ≤ (joinT k nm i ts).length
 | [], _, _, h => by simp at h
 | t :: r, i, x, h => by
  simp only [joinT, List.length_append]
  rcases List.mem_cons.1 h with h | h
  ·subst h; unfold pieceT; simp; try omega
  ·have := joinT_mem k nm r (i + 1) x h; omega
def KE.kids : KE → List KE
 | .num _ => []
 | .var _ => []
 | .n1 _ a => [a]
 | .n2 _ _ a b => [a, b]
 | .n3 _ _ a b c => [a, b, c]
def KText (rg : List UInt8) (x : KE) : Prop := ∀ (p : Nat) (w : World), KIn w x p → (x.pt rg).tidy.length ≤ 100000 → (∀ W, Below w.heap.size w W → ItoaOk W) →
 Calls Tryz.prog 11 #[.pointer (some ⟨p, 0, none⟩), .string (bs (regT rg))] w fun e w' => e = .returned (.string (bs (x.pt rg).tidy)) ∧ Below w.heap.size w w'
set_option maxRecDepth 100000 in
theorem text_num (rg : List UInt8) (n : Nat) (hn : n ≤ 9999) : KText rg (.num n) := by
 intro p w hx _ hit
 have hx' : w.heap[p]? = some (.cells (exV [] n (.slice none 0 0)) 59 (0, 0)) := hx
 have hp := blk_lt hx'
 have x0 : w.cell? ⟨p, 0, none⟩ = some (.string ⟨#[]⟩) := by rw [blk_cell hx']; rfl
 have x1 : w.cell? ⟨p, 1, none⟩ = some (.int .i64 n) := by rw [blk_cell hx']; rfl
 have hi := hit w (Below.refl _ _) n w hn (Below.refl _ _)
 have HI : Hid _ := hi
 simp only [KE.pt, PT.tidy]
 clear hx hx' hi hit
 go_enter Tryz.func11, Tryz.ntmps11
 go_wp2_with fail
 refine Calls.mono HI.out ?_
 rintro _ w2 ⟨rfl, hb⟩
 go_wp2
 go_ret
 exact ⟨rfl, hb⟩
set_option maxRecDepth 100000 in
theorem text_var (rg : List UInt8) (n : Nat) (hn : n ≤ 1000) : KText rg (.var n) := by
 intro p w hx _ _
 have hx' : w.heap[p]? = some (.cells (exV [120] n (.slice none 0 0)) 59 (0, 0)) := hx
 have hp := blk_lt hx'
 have x0 : w.cell? ⟨p, 0, none⟩ = some (.string ⟨#[120]⟩) := by rw [blk_cell hx']; rfl
 have x1 : w.cell? ⟨p, 1, none⟩ = some (.int .i64 n) := by rw [blk_cell hx']; rfl
 have HI : Hid _ := kname_any n hn w
 simp only [KE.pt, PT.tidy]
 clear hx hx'
 go_enter Tryz.func11, Tryz.ntmps11
 go_wp2_with fail
 refine Calls.mono HI.out ?_
 rintro _ w2 ⟨rfl, hb⟩
 go_wp2
 go_ret
 exact ⟨rfl, hb⟩
theorem join_bind (k : Kw) (n : Nat) : ∀ (l : List (List UInt8)) (i : Nat), joinT k (bindN k n) i l = joinT k (nameL n) i l
 | [], _ => rfl
 | x :: r, i => by
  simp only [joinT]
  rw [join_bind k n r (i + 1)]
  congr 1
  unfold pieceT
  split
  ·rename_i h
   unfold bindN
   rw [if_pos (h.elim (fun h => Or.inl h.1) (fun h => Or.inr h.1))]
  ·rfl
def KNode (w : World) (p : Nat) (k : Kw) (n : Nat) (ks : List KE) : Prop := ∃ c : Nat, c < w.heap.size ∧ w.heap[p]? = some (.cells (exV k.bytes n (.slice (some ⟨c, 0, none⟩) ks.length ks.length)) 59 (0, 0)) ∧ ∀ (j : Nat) (y : KE), ks[j]? = some y → ∃ q : Nat, w.cell? ⟨c, j, none⟩ = some (.pointer (some ⟨q, 0, none⟩)) ∧ KIn w y q
theorem knode1 {w : World} {p : Nat} {k : Kw} {a : KE} (h : KIn w (.n1 k a) p) : KNode w p k 0 [a] := by
 obtain ⟨c, pa, h1, h2, h3⟩ := h
 refine ⟨c, blk_lt h2, h1, fun j y hj => ?_⟩
 match j, hj with
 | 0, hj => simp at hj; subst hj; exact ⟨pa, by rw [blk_cell h2]; rfl, h3⟩
 | j + 1, hj => simp at hj
theorem knode2 {w : World} {p : Nat} {k : Kw} {n : Nat} {a b : KE} (h : KIn w (.n2 k n a b) p) : KNode w p k n [a, b] := by
 obtain ⟨c, pa, pb, h1, h2, h3, h4⟩ := h
 refine ⟨c, blk_lt h2, h1, fun j y hj => ?_⟩
 match j, hj with
 | 0, hj => simp at hj; subst hj; exact ⟨pa, by rw [blk_cell h2]; rfl, h3⟩
 | 1, hj => simp at hj; subst hj; exact ⟨pb, by rw [blk_cell h2]; rfl, h4⟩
 | j + 2, hj => simp at hj
theorem knode3 {w : World} {p : Nat} {k : Kw} {n : Nat} {a b d : KE} (h : KIn w (.n3 k n a b d) p) : KNode w p k n [a, b, d] := by
 obtain ⟨c, pa, pb, pd, h1, h2, h3, h4, h5⟩ := h
 refine ⟨c, blk_lt h2, h1, fun j y hj => ?_⟩
 match j, hj with
 | 0, hj => simp at hj; subst hj; exact ⟨pa, by rw [blk_cell h2]; rfl, h3⟩
 | 1, hj => simp at hj; subst hj; exact ⟨pb, by rw [blk_cell h2]; rfl, h4⟩
 | 2, hj => simp at hj; subst hj; exact ⟨pd, by rw [blk_cell h2]; rfl, h5⟩
 | j + 3, hj => simp at hj
set_option maxRecDepth 100000 in
set_option maxHeartbeats 4000000 in
theorem text_node (rg : List UInt8) (x : KE) (k : Kw) (n : Nat) (ks : List KE) (hkn : k ≠ .new) (hn : n ≤ 1000)
  (hpt : (x.pt rg).tidy = 40 :: (k.bytes ++ ((if k = .pair then regT rg else []) ++ (joinT k (nameL n) 0 (ks.map (fun y => (y.pt rg).tidy)) ++ [41]))))
  (hin : ∀ w p, KIn w x p → KNode w p k n ks) (hk3 : ks.length ≤ 3) (ih : ∀ y ∈ ks, KText rg y) : KText rg x := by
 intro p w hx hlen hit
 obtain ⟨c, hc, hb, hkid⟩ := hin w p hx
 have hp := blk_lt hb
 have x0 : w.cell? ⟨p, 0, none⟩ = some (.string (bs k.bytes)) := by rw [blk_cell hb]; rfl
 have x1 : w.cell? ⟨p, 1, none⟩ = some (.int .i64 n) := by rw [blk_cell hb]; rfl
 have x2 : w.cell? ⟨p, 2, none⟩ = some (.slice (some ⟨c, 0, none⟩) ks.length ks.length) := by rw [blk_cell hb]; rfl
 have h1 : ((bs k.bytes).toList == []) = false := by rw [bs_beq0]; cases k <;> decide
 have h2 : ((bs k.bytes).toList == [120]) = false := by rw [bs_beq0]; cases k <;> decide
 obtain ⟨bp, hbp⟩ : ∃ bp, ((bs k.bytes).toList == [112, 97, 105, 114]) = bp := ⟨_, rfl⟩
 obtain ⟨bl, hl⟩ : ∃ bl, ((bs k.bytes).toList == [108, 101, 116]) = bl := ⟨_, rfl⟩
 obtain ⟨bo, ho⟩ : ∃ bo, ((bs k.bytes).toList == [108, 111, 111, 112]) = bo := ⟨_, rfl⟩
 have hP : bp = decide (k = .pair) := by rw [← hbp, bs_beq0]; cases k <;> decide
 have hL : bl = decide (k = .let_) := by rw [← hl, bs_beq0]; cases k <;> decide
 have hO : bo = decide (k = .loop) := by rw [← ho, bs_beq0]; cases k <;> decide
 have hLO : ¬ (bl = true ∧ bo = true) := by rw [hL, hO]; cases k <;> simp
 obtain ⟨ts, hts⟩ : ∃ ts, ts = ks.map (fun y => (y.pt rg).tidy) := ⟨_, rfl⟩
 have htl : ts.length = ks.length := by rw [hts]; simp
 obtain ⟨pre, hpre⟩ : ∃ pre, pre = 40 :: (k.bytes ++ (if k = .pair then regT rg else [])) := ⟨_, rfl⟩
 rw [← hts] at hpt
 have hfin : accZ pre k (nameL n) ts ks.length ++ [41] = (x.pt rg).tidy := by
  rw [hpt, hpre]; unfold accZ; rw [← htl, List.take_length]; simp
 have hlenp : pre.length + (joinT k (nameL n) 0 ts).length + 1 = (x.pt rg).tidy.length := by rw [hpt, hpre]; simp; omega
 have hacc := fun j => accZ_le pre k (nameL n) ts j
 have hall : ∀ j, (hj : j < ks.length) → ∀ w', Below w.heap.size w w' → ∃ (q : Nat) (tx : List UInt8), w'.cell? ⟨c, j, none⟩ = some (.pointer (some ⟨q, 0, none⟩)) ∧ ts[j]? = some tx ∧ tx.length ≤ 100000 ∧
   Calls Tryz.prog 11 #[.pointer (some ⟨q, 0, none⟩), .string (bs (regT rg))] w' (fun e w'' => e = .returned (.string (bs tx)) ∧ Below w'.heap.size w' w'') := by
  intro j hj w' hw'
  obtain ⟨q, hq, hy⟩ := hkid j ks[j] (List.getElem?_eq_getElem hj)
  have htx : ts[j]? = some (ks[j].pt rg).tidy := by rw [hts, List.getElem?_map, List.getElem?_eq_getElem hj]; rfl
  have hm := joinT_mem k (nameL n) ts 0 _ (List.mem_of_getElem? htx)
  exact ⟨q, _, (hw'.cell (p := ⟨c, j, none⟩) hc).trans hq, htx, by omega, ih ks[j] (List.getElem_mem hj) q w' (hy.below hw') (by omega) (fun W hW => hit W (hw'.trans (hW.mono hw'.size)))⟩
 have hnm := fun W => kname_any n hn W
 have hkb : k.bytes.length ≤ 4 := by cases k <;> decide
 have hrl : (regT rg).length ≤ 100000 ∨ k ≠ .pair := by
  by_cases h : k = .pair
  ·left; rw [hpre, if_pos h] at hlenp; simp at hlenp; omega
  ·exact Or.inr h
 have hz : ∀ j, (bs (accZ pre k (nameL n) ts j)).size ≤ 100000 := fun j => by rw [bs_size]; have := hacc j; omega
 have HALL : Hid _ := hall
 have HNM : Hid _ := hnm
 have HFIN : Hid _ := hfin
 have HL : Hid _ := hL
 have HO : Hid _ := hO
 have HZ : Hid _ := hz
 have z1 : (ByteArray.mk #[40]).size = 1 := rfl
 have z2 : (bs k.bytes).size ≤ 4 := by rw [bs_size]; exact hkb
 have z3 : (bs (nameL n)).size = 3 := rfl
 have zR : bp = true → (bs (regT rg)).size ≤ 100000 := by
  intro h; rw [bs_size]; rw [hP, decide_eq_true_eq] at h
  rcases hrl with h1 | h1
  ·exact h1
  ·exact absurd h h1
 have e0 : bp = true → ByteArray.mk #[40] ++ bs k.bytes ++ bs (regT rg) = bs (accZ pre k (nameL n) ts 0) := by
  intro h
  rw [hP, decide_eq_true_eq] at h
  rw [show ByteArray.mk #[40] = bs [40] from rfl, bs_app, bs_app, hpre, if_pos h]; simp [accZ, joinT]
 have e1 : bp = false → ByteArray.mk #[40] ++ bs k.bytes = bs (accZ pre k (nameL n) ts 0) := by
  intro h
  rw [hP, decide_eq_false_iff_not] at h
  rw [show ByteArray.mk #[40] = bs [40] from rfl, bs_app, hpre, if_neg h]; simp [accZ, joinT]
 have zS : (ByteArray.mk #[40] ++ bs k.bytes).size ≤ 5 := by rw [ByteArray.size_append]; omega
 have E0 : Hid _ := e0
 have E1 : Hid _ := e1
 have ZR : Hid _ := zR
 clear hall hx hkid ih hit hL hO hP hpt hin hfin hpre hts hacc hnm hz e0 e1 zR hb hrl hlen hlenp hkb
 go_enter Tryz.func11, Tryz.ntmps11
 cases bp
 all_goals
  first
  | (have ee0 : Hid _ := E1.out rfl)
  | (have ee0 : Hid _ := E0.out rfl)
  first
  | (have zR := ZR.out rfl)
  | skip
  clear E0 E1 ZR
  go_wp2_with fail
  go_loopw [5, 6] (fun v i wr => ∃ j : Nat, j ≤ ks.length ∧ i = .int .i64 j ∧ v = .string (bs (accZ pre k (nameL n) ts j)) ∧ Below w.heap.size w wr) (fun _ i _ => ks.length - (intOf i).toNat)
  case atStart => exact ⟨0, by omega, rfl, by rw [← ee0.out], Below.refl _ _⟩
  case round =>
   obtain ⟨j, hj, rfl, rfl, hbel⟩ := hrel
   have hsz := hbel.size
   have q0 : wr.cell? ⟨p, 0, none⟩ = some (.string (bs k.bytes)) := (hbel.cell (p := ⟨p, 0, none⟩) hp).trans x0
   have q1 : wr.cell? ⟨p, 1, none⟩ = some (.int .i64 n) := (hbel.cell (p := ⟨p, 1, none⟩) hp).trans x1
   have q2 : wr.cell? ⟨p, 2, none⟩ = some (.slice (some ⟨c, 0, none⟩) ks.length ks.length) := (hbel.cell (p := ⟨p, 2, none⟩) hp).trans x2
   have hpr : p < wr.heap.size := by omega
   have hcr : c < wr.heap.size := by omega
   have zA := HZ.out j
   have z4 : (ByteArray.mk #[32]).size = 1 := rfl
   have z5 : (ByteArray.mk #[41]).size = 1 := rfl
   have HB : Hid _ := hbel
   by_cases hlt : j < ks.length
   ·have hnx : ∀ tx, ts[j]? = some tx → accZ pre k (nameL n) ts (j + 1) = accZ pre k (nameL n) ts j ++ pieceT k (nameL n) j tx := fun tx htx => accZ_succ pre k (nameL n) ts j tx htx
    have HNX : Hid _ := hnx
    have zB : (bs (accZ pre k (nameL n) ts j) ++ ByteArray.mk #[32]).size ≤ 100001 := by rw [ByteArray.size_append]; omega
    have zC : (bs (accZ pre k (nameL n) ts j) ++ ByteArray.mk #[32] ++ bs (nameL n)).size ≤ 100004 := by rw [ByteArray.size_append]; omega
    have zD : (bs (accZ pre k (nameL n) ts j) ++ ByteArray.mk #[32] ++ bs (nameL n) ++ ByteArray.mk #[32]).size ≤ 100005 := by rw [ByteArray.size_append]; omega
    have eN : ((bl = true ∧ j = 0) ∨ (bo = true ∧ j = 1)) → ∀ tx, ts[j]? = some tx → bs (accZ pre k (nameL n) ts j) ++ ByteArray.mk #[32] ++ bs (nameL n) ++ ByteArray.mk #[32] ++ bs tx = bs (accZ pre k (nameL n) ts (j + 1)) := by
     intro hcd tx htx
     rw [HL.out, HO.out, decide_eq_true_eq, decide_eq_true_eq] at hcd
     rw [HNX.out tx htx, show ByteArray.mk #[32] = bs [32] from rfl, bs_app, bs_app, bs_app, bs_app]
     unfold pieceT; rw [if_pos hcd]; simp
    have eP : ¬ ((bl = true ∧ j = 0) ∨ (bo = true ∧ j = 1)) → ∀ tx, ts[j]? = some tx → bs (accZ pre k (nameL n) ts j) ++ ByteArray.mk #[32] ++ bs tx = bs (accZ pre k (nameL n) ts (j + 1)) := by
     intro hcd tx htx
     rw [HL.out, HO.out, decide_eq_true_eq, decide_eq_true_eq] at hcd
     rw [HNX.out tx htx, show ByteArray.mk #[32] = bs [32] from rfl, bs_app, bs_app]
     unfold pieceT; rw [if_neg hcd]; simp
    have EN : Hid _ := eN
    have EP : Hid _ := eP
    clear eN eP hnx hbel
    by_cases hcd : (bl = true ∧ j = 0) ∨ (bo = true ∧ j = 1)
    ·have HEE : Hid _ := EN.out hcd
     clear EN EP HNX HL HO HZ
     have hbr : (bl = true ∧ j = 0) ∨ (bl = false ∧ bo = true ∧ j = 1) := by
      rcases hcd with h | h
      ·exact Or.inl h
      ·right
       refine ⟨?_, h⟩
       cases bl with
       | false => rfl
       | true => exact absurd ⟨rfl, h.1⟩ hLO
     clear hcd hLO
     have hbq : (bl = true ∧ ((j : Int) == 0) = true) ∨ (bl = false ∧ bo = true ∧ ((j : Int) == 1) = true) := by
      rcases hbr with ⟨h1, h2⟩ | ⟨h1, h2, h3⟩
      ·exact Or.inl ⟨h1, by rw [h2]; rfl⟩
      ·exact Or.inr ⟨h1, h2, by rw [h3]; rfl⟩
     clear hbr
     rcases hbq with ⟨rfl, hqj⟩ | ⟨rfl, rfl, hqj⟩
     all_goals
      go_wp2_with fail
      refine Calls.mono (HNM.out _) ?_
      rintro _ w1 ⟨rfl, hb1⟩
      have HB1 : Hid _ := HB.out.trans (hb1.mono hsz)
      have r2 : w1.cell? ⟨p, 2, none⟩ = some (.slice (some ⟨c, 0, none⟩) ks.length ks.length) := (HB1.out.cell (p := ⟨p, 2, none⟩) hp).trans x2
      have hpr1 : p < w1.heap.size := by have := HB1.out.size; omega
      have hcr1 : c < w1.heap.size := by have := HB1.out.size; omega
      obtain ⟨q, tx, hq, htx, htl', hcall⟩ := HALL.out _ hlt w1 HB1.out
      have hfe := HEE.out tx htx
      have zE : (bs tx).size ≤ 100000 := by rw [bs_size]; exact htl'
      have HC : Hid _ := hcall
      have HFE : Hid _ := hfe
      clear hcall hfe htx HEE hb1
      go_wp2_with fail
      refine Calls.mono HC.out ?_
      rintro _ w2 ⟨rfl, hb2⟩
      have HB2 : Hid _ := HB1.out.trans (hb2.mono HB1.out.size)
      clear hb2 HC
      go_wp2
      go_roundw
      case rel => exact ⟨j + 1, by omega, by go_num, by rw [← HFE.out], HB2.out⟩
      case measure => simp [intOf]; omega
    ·have HEE : Hid _ := EP.out hcd
     clear EN EP HNX HL HO HZ
     obtain ⟨q, tx, hq, htx, htl', hcall⟩ := HALL.out j hlt wr HB.out
     have hfe := HEE.out tx htx
     have zE : (bs tx).size ≤ 100000 := by rw [bs_size]; exact htl'
     have HC : Hid _ := hcall
     have HFE : Hid _ := hfe
     have hnl : ¬ (bl = true ∧ j = 0) := fun h => hcd (Or.inl h)
     have hno : ¬ (bo = true ∧ j = 1) := fun h => hcd (Or.inr h)
     clear hcall hfe htx HEE hcd
     have qj0 : j ≠ 0 → ((j : Int) == 0) = false := fun h => by rw [beq_eq_false_iff_ne]; omega
     have qj1 : j ≠ 1 → ((j : Int) == 1) = false := fun h => by rw [beq_eq_false_iff_ne]; omega
     cases bl <;> cases bo <;> first | exact absurd ⟨rfl, rfl⟩ hLO | skip
     all_goals
      clear hLO
      first
      | (have hj0 : j ≠ 0 := fun h => hnl ⟨rfl, h⟩
         have q6 := qj0 hj0)
      | (have hj1 : j ≠ 1 := fun h => hno ⟨rfl, h⟩
         have q6 := qj1 hj1)
      | skip
      clear hnl hno qj0 qj1
      go_wp2_with fail
      refine Calls.mono HC.out ?_
      rintro _ w2 ⟨rfl, hb2⟩
      have HB2 : Hid _ := HB.out.trans (hb2.mono hsz)
      clear hb2 HC
      go_wp2
      go_roundw
      case rel => exact ⟨j + 1, by omega, by go_num, by rw [← HFE.out], HB2.out⟩
      case measure => simp [intOf]; omega
   ·have hjk : j = ks.length := by omega
    subst hjk
    clear HALL HL HO
    go_wp2_with fail
    go_ret
    refine ⟨?_, HB.out⟩
    rw [← HFIN.out, ← bs_app]; rfl
theorem Vl.txt_len (a b : Vl) : (Vl.p a b).txt.length = a.txt.length + b.txt.length + 3 := by simp only [Vl.txt, List.length_cons, List.length_append, List.length_nil]; omega
theorem Vl.has_len : ∀ {v : Vl} {T : Ty}, v.has T → v.txt.length ≤ 7 * T.size + 4
 | .n k, .n, h => by
  simp only [Vl.has] at h
  simp only [Vl.txt, Ty.size]
  rw [decDigits]; split
  ·simp
  ·rw [decDigits]; split
   ·simp
   ·rw [decDigits]; split
    ·simp
    ·rw [decDigits]; split
     ·simp
     ·omega
 | .p a b, .p _ x y, h => by
  simp only [Vl.has] at h
  have h1 := Vl.has_len h.1
  have h2 := Vl.has_len h.2
  rw [Vl.txt_len]
  simp only [Ty.size]; omega
 | .n _, .p _ _ _, h => by simp [Vl.has] at h
 | .p _ _, .n, h => by simp [Vl.has] at h
end Go.Proofs.YtpicaknklgccoabGreatDoor
namespace Go.Proofs.YtpicaknklgccoabGreatDoor
structure MV where
 c : Bool
 n : Int
structure MC where
 a : MV
 b : MV
 home : Nat
 ser : Nat
structure MR where
 num : Int
 ser : Nat
 cells : Nat
structure MM where
 steps : Nat
 fault : Nat
 named : List MV
 cells : List MC
 regs : List MR
 opened : Nat
 live : Int
 most : Int
def v0 : MV := ⟨false, 0⟩
def c0 : MC := ⟨v0, v0, 0, 0⟩
def MM.stop (m : MM) (f : Nat) : MM := if m.fault = 0 then { m with fault := f } else m
def MM.opn (m : MM) (k : Int) : MM := { m with regs := m.regs ++ [⟨k, m.opened, 0⟩], opened := m.opened + 1 }
def MM.fin (m : MM) : MM := match m.regs.getLast? with
 | none => m
 | some r => { m with live := m.live - r.cells, regs := m.regs.dropLast }
def homeF (l : List MR) (k : Int) : Nat → Nat
 | 0 => 0
 | i + 1 => if (l[i + 1]?).map (·.num) = some k then i + 1 else homeF l k i
def MM.home (m : MM) (k : Int) : Nat := homeF m.regs k (m.regs.length - 1)
def MM.newCell (m : MM) (k : Int) (a b : MV) : MV × MM := match m.regs[m.home k]? with
 | none => (v0, m)
 | some r => (⟨true, m.cells.length⟩, { m with regs := m.regs.set (m.home k) { r with cells := r.cells + 1 }, cells := m.cells ++ [⟨a, b, m.home k, r.ser⟩], live := m.live + 1, most := if m.most < m.live + 1 then m.live + 1 else m.most })
def MM.isLive (m : MM) (c : MC) : Bool := match m.regs[c.home]? with
 | some r => r.ser == c.ser
 | none => false
def MM.use (m : MM) (v : MV) : MC × MM :=
 if v.c = false ∨ v.n < 0 ∨ (m.cells.length : Int) ≤ v.n then (c0, m)
 else (m.cells.getD v.n.toNat c0, if m.isLive (m.cells.getD v.n.toNat c0) = true then m else m.stop 13)
def MM.name (m : MM) (i : Int) (v : MV) : MM := if 0 ≤ i ∧ i < m.named.length then { m with named := m.named.set i.toNat v } else m
def MM.look (m : MM) (i : Int) : MV := if i < 0 ∨ (m.named.length : Int) ≤ i then v0 else m.named.getD i.toNat v0
def mBegun (fuel : Nat) (m : MM) (f : MM → MV × MM) : MV × MM :=
 let m1 := if fuel ≤ m.steps then m.stop 12 else m
 if m1.fault ≠ 0 then (v0, m1) else f { m1 with steps := m1.steps + 1 }
def mTurns (i : Int) (f : MM → MV × MM) : Nat → MV → MM → MV × MM
 | 0, x, m => (x, m)
 | k + 1, x, m => if m.fault ≠ 0 then (x, m) else mTurns i f k (f (m.name i x)).1 (f (m.name i x)).2
def mArith (k : Kw) (a b : Int) : Int :=
 if k = .add then Int.tmod (a + b) 10000 else if k = .sub then Int.tmod (a + 10000 - b) 10000 else if a < b then 1 else 0
mutual
def mW (fuel : Nat) : PT → Sc → Nat → MM → MV × MM
 | .num _ s, _, _, m => mBegun fuel m (fun m => (⟨false, valueL s⟩, m))
 | .name _ s, sc, _, m => mBegun fuel m (fun m => (m.look (findS sc s), m))
 | .node _ k nm rg kids, sc, base, m =>
  if k = .new then mNew fuel (valueL rg) kids sc base m
  else mBegun fuel m (fun m =>
   if k = .let_ then mLet fuel nm kids sc base m
   else if k = .if_ then mIf fuel kids sc base m
   else if k = .loop then mLoop fuel nm kids sc base m
   else mOps fuel k (valueL rg) kids sc base m)
def mNew (fuel : Nat) (rg : Int) : List PT → Sc → Nat → MM → MV × MM
 | [a], sc, base, m =>
  let x := mW fuel a sc base (m.opn rg)
  (x.1, x.2.fin)
 | _, _, _, m => (v0, m)
def mLet (fuel : Nat) (nm : List UInt8) : List PT → Sc → Nat → MM → MV × MM
 | [a, b], sc, base, m =>
  let x := mW fuel a sc base m
  mW fuel b (sc ++ [(nm, ((base + a.cnt : Nat) : Int) - 1)]) (base + a.cnt) (x.2.name (((base + a.cnt : Nat) : Int) - 1) x.1)
 | _, _, _, m => (v0, m)
def mIf (fuel : Nat) : List PT → Sc → Nat → MM → MV × MM
 | [a, b, c], sc, base, m =>
  let x := mW fuel a sc base m
  if x.1.n ≠ 0 then mW fuel b sc (base + a.cnt) x.2 else mW fuel c sc (base + a.cnt + b.cnt) x.2
 | _, _, _, m => (v0, m)
def mLoop (fuel : Nat) (nm : List UInt8) : List PT → Sc → Nat → MM → MV × MM
 | [a, b, c], sc, base, m =>
  let x := mW fuel a sc base m
  let y := mW fuel b sc (base + a.cnt) x.2
  mTurns (((base + a.cnt + b.cnt : Nat) : Int) - 1) (fun m => mW fuel c (sc ++ [(nm, ((base + a.cnt + b.cnt : Nat) : Int) - 1)]) (base + a.cnt + b.cnt) m) x.1.n.toNat y.1 y.2
 | _, _, _, m => (v0, m)
def mOps (fuel : Nat) (k : Kw) (rg : Int) : List PT → Sc → Nat → MM → MV × MM
 | [a], sc, base, m =>
  let x := mW fuel a sc base m
  let c := x.2.use x.1
  (if k = .fst then c.1.a else c.1.b, c.2)
 | [a, b], sc, base, m =>
  let x := mW fuel a sc base m
  let y := mW fuel b sc (base + a.cnt) x.2
  if k = .pair then y.2.newCell rg x.1 y.1 else (⟨false, mArith k x.1.n y.1.n⟩, y.2)
 | _, _, _, m => (v0, m)
end
def MV.bd (v : MV) : Prop := -30000 ≤ v.n ∧ v.n ≤ 30000
def sumC : List MR → Nat
 | [] => 0
 | r :: l => r.cells + sumC l
structure MBd (fuel : Nat) (m : MM) : Prop where
 steps : m.steps ≤ fuel
 cells : m.cells.length ≤ m.steps
 live : m.live = sumC m.regs
 sum : sumC m.regs ≤ m.cells.length
 most : 0 ≤ m.most ∧ m.most ≤ m.cells.length
 named : ∀ v ∈ m.named, v.bd
 cell : ∀ c ∈ m.cells, c.a.bd ∧ c.b.bd ∧ c.home ≤ 20000 ∧ c.ser ≤ m.opened
 regs : m.regs.length ≤ 20000
 ser : ∀ r ∈ m.regs, r.ser ≤ m.opened ∧ -1 ≤ r.num ∧ r.num ≤ 9999
theorem v0_bd : v0.bd := by simp [v0, MV.bd]
theorem MM.stop_bd {fuel : Nat} {m : MM} (h : MBd fuel m) (f : Nat) : MBd fuel (m.stop f) := by
 unfold MM.stop; split
 ·exact ⟨h.steps, h.cells, h.live, h.sum, h.most, h.named, h.cell, h.regs, h.ser⟩
 ·exact h
theorem sumC_append (a b : List MR) : sumC (a ++ b) = sumC a + sumC b := by induction a <;> simp [sumC, *]; omega
theorem sumC_set : ∀ (l : List MR) (i : Nat) (r r' : MR), l[i]? = some r → sumC (l.set i r') + r.cells = sumC l + r'.cells
 | [], i, r, r', h => by simp at h
 | a :: l, 0, r, r', h => by simp at h; subst h; simp [sumC]; omega
 | a :: l, i + 1, r, r', h => by
  have := sumC_set l i r r' (by simpa using h)
  simp [sumC]; omega
theorem MM.opn_bd {fuel : Nat} {m : MM} (h : MBd fuel m) (k : Int) (hk : -1 ≤ k ∧ k ≤ 9999) (hr : m.regs.length + 1 ≤ 20000) : MBd fuel (m.opn k) := by
 refine ⟨h.steps, h.cells, ?_, ?_, h.most, h.named, ?_, ?_, ?_⟩
 ·simp [MM.opn, sumC_append, sumC, h.live]
 ·simp [MM.opn, sumC_append, sumC]; exact h.sum
 ·intro c hc
  have := h.cell c hc
  exact ⟨this.1, this.2.1, this.2.2.1, Nat.le_succ_of_le this.2.2.2⟩
 ·simp [MM.opn]; omega
 ·intro r hr
  simp only [MM.opn, List.mem_append, List.mem_singleton] at hr
  rcases hr with hr | rfl
  ·have := h.ser r hr; exact ⟨Nat.le_succ_of_le this.1, this.2⟩
  ·exact ⟨Nat.le_succ _, hk⟩
theorem MM.fin_bd {fuel : Nat} {m : MM} (h : MBd fuel m) : MBd fuel m.fin := by
 cases hl : m.regs.getLast? with
 | none => unfold MM.fin; rw [hl]; exact h
 | some r =>
  have ef : m.fin = { m with live := m.live - r.cells, regs := m.regs.dropLast } := by unfold MM.fin; rw [hl]
  rw [ef]
  have e : m.regs.dropLast ++ [r] = m.regs := by
   rw [List.getLast?_eq_some_iff] at hl
   obtain ⟨ys, hy⟩ := hl
   rw [hy]; simp
  have hs : sumC m.regs = sumC m.regs.dropLast + r.cells := by
   conv => lhs; rw [← e]
   simp [sumC_append, sumC]
  have h1 := h.live
  have h2 := h.sum
  refine ⟨h.steps, h.cells, ?_, ?_, h.most, h.named, h.cell, ?_, ?_⟩
  ·show m.live - r.cells = ((sumC m.regs.dropLast : Nat) : Int); rw [h1, hs]; omega
  ·show sumC m.regs.dropLast ≤ m.cells.length; omega
  ·show m.regs.dropLast.length ≤ _; have := h.regs; simp; omega
  ·intro x hx
   exact h.ser x (by rw [← e]; exact List.mem_append_left _ hx)
theorem MM.newCell_bd {fuel : Nat} {m : MM} (h : MBd fuel m) (k : Int) (a b : MV) (ha : a.bd) (hb : b.bd) (hc : m.cells.length < m.steps) (hf : fuel ≤ 20000) : MBd fuel (m.newCell k a b).2 ∧ (m.newCell k a b).1.bd := by
 cases hr : m.regs[m.home k]? with
 | none => unfold MM.newCell; rw [hr]; exact ⟨h, v0_bd⟩
 | some r =>
  have ef : m.newCell k a b = (⟨true, m.cells.length⟩, { m with regs := m.regs.set (m.home k) { r with cells := r.cells + 1 }, cells := m.cells ++ [⟨a, b, m.home k, r.ser⟩], live := m.live + 1, most := if m.most < m.live + 1 then m.live + 1 else m.most }) := by unfold MM.newCell; rw [hr]
  rw [ef]
  have h1 := h.live
  have h2 := h.sum
  have h3 := h.most
  have hm := List.mem_of_getElem? hr
  have h4 := sumC_set m.regs (m.home k) r { r with cells := r.cells + 1 } hr
  simp only at h4
  have hlt := (List.getElem?_eq_some_iff.1 hr).1
  have hst := h.steps
  refine ⟨⟨h.steps, ?_, ?_, ?_, ?_, h.named, ?_, ?_, ?_⟩, ?_⟩
  ·simp; omega
  ·show m.live + 1 = ((sumC (m.regs.set (m.home k) { r with cells := r.cells + 1 }) : Nat) : Int); rw [h1]; omega
  ·show sumC (m.regs.set (m.home k) { r with cells := r.cells + 1 }) ≤ (m.cells ++ _).length; simp only [List.length_append, List.length_cons, List.length_nil]; omega
  ·show 0 ≤ (if m.most < m.live + 1 then m.live + 1 else m.most) ∧ (if m.most < m.live + 1 then m.live + 1 else m.most) ≤ ((m.cells ++ _).length : Int)
   simp only [List.length_append, List.length_cons, List.length_nil]
   split <;> omega
  ·intro c hc
   simp only [List.mem_append, List.mem_singleton] at hc
   rcases hc with hc | rfl
   ·exact h.cell c hc
   ·refine ⟨ha, hb, ?_, (h.ser r hm).1⟩
    have := h.regs
    show m.home k ≤ 20000
    omega
  ·show (m.regs.set _ _).length ≤ _; rw [List.length_set]; exact h.regs
  ·intro x hx
   rcases List.mem_or_eq_of_mem_set hx with hx | rfl
   ·exact h.ser x hx
   ·exact h.ser r hm
  ·simp only [MV.bd]; omega
theorem getD_mem {α : Type} (l : List α) (i : Nat) (d : α) (h : i < l.length) : l.getD i d ∈ l := by
 rw [List.getD_eq_getElem?_getD, List.getElem?_eq_getElem h]; simp
theorem MM.use_bd {fuel : Nat} {m : MM} (h : MBd fuel m) (v : MV) : MBd fuel (m.use v).2 ∧ (m.use v).1.a.bd ∧ (m.use v).1.b.bd := by
 unfold MM.use
 split
 ·exact ⟨h, v0_bd, v0_bd⟩
 ·rename_i hn
  have hlt : v.n.toNat < m.cells.length := by omega
  have hm := h.cell _ (getD_mem m.cells v.n.toNat c0 hlt)
  refine ⟨?_, hm.1, hm.2.1⟩
  simp only
  split
  ·exact h
  ·exact MM.stop_bd h 13
theorem MM.name_bd {fuel : Nat} {m : MM} (h : MBd fuel m) (i : Int) (v : MV) (hv : v.bd) : MBd fuel (m.name i v) := by
 unfold MM.name
 split
 ·refine ⟨h.steps, h.cells, h.live, h.sum, h.most, ?_, h.cell, h.regs, h.ser⟩
  intro x hx
  rcases List.mem_or_eq_of_mem_set hx with hx | rfl
  ·exact h.named x hx
  ·exact hv
 ·exact h
theorem MM.look_bd {fuel : Nat} {m : MM} (h : MBd fuel m) (i : Int) : (m.look i).bd := by
 unfold MM.look
 split
 ·exact v0_bd
 ·exact h.named _ (getD_mem _ _ _ (by omega))
theorem arith_bd (k : Kw) (a b : Int) : (⟨false, mArith k a b⟩ : MV).bd := by
 unfold MV.bd mArith
 simp only
 have h1 := Int.tmod_lt_of_pos (a + b) (show (0 : Int) < 10000 by omega)
 have h2 := Int.tmod_lt_of_pos (a + 10000 - b) (show (0 : Int) < 10000 by omega)
 have h3 := Int.lt_tmod_of_pos (a + b) (show (0 : Int) < 10000 by omega)
 have h4 := Int.lt_tmod_of_pos (a + 10000 - b) (show (0 : Int) < 10000 by omega)
 split
 ·omega
 ·split
  ·omega
  ·split <;> omega
end Go.Proofs.YtpicaknklgccoabGreatDoor
