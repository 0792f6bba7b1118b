import Derived.Test.YtpicaknklgccoaaGreatDoorX26
import Derived.Test.YtpicaknklgccoaaGreatDoorX12
import Derived.Test.YtpicaknklgccoaaGreatDoorX27
import Derived.Test.YtpicaknklgccoaaGreatDoorX14
import Derived.Lib.SlBytesRow
import Derived.Lib.BufferRead
import Derived.Test.YtpicaknklgccoaaGreatDoorX2
import Derived.Test.YtpicaknklgccoaaGreatDoorX23
namespace Go.Proofs.YtpicaknklgccoaaGreatDoor
open Go.Lib (decDigits)
theorem ofNat_toNat8 (n : Nat) (h : n < 256) : (UInt8.ofNat n).toNat = n := by simp; omega
theorem value_dec (u : Nat) : valueL (decDigits u) = u := by
 induction u using Nat.strongRecOn with
 | _ u ih =>
  rw [decDigits]
  split
  ·rename_i h
   have e : (UInt8.ofNat (48 + u)).toNat = 48 + u := ofNat_toNat8 _ (by omega)
   have hne : UInt8.ofNat (48 + u) ≠ 35 := by intro hc; rw [hc] at e; simp at e; omega
   simp only [valueL, List.foldl_cons, List.foldl_nil, if_neg hne, e]; omega
  ·rename_i h
   have e : (UInt8.ofNat (48 + u % 10)).toNat = 48 + u % 10 := ofNat_toNat8 _ (by omega)
   have hne : UInt8.ofNat (48 + u % 10) ≠ 35 := by intro hc; rw [hc] at e; simp at e; omega
   rw [valueL_snoc, if_neg hne, ih _ (by omega), e]; omega
theorem dec_ne (u : Nat) : decDigits u ≠ [] := by rw [decDigits]; split <;> simp
theorem dec_head (u : Nat) (h : 0 < u) : (decDigits u).head? ≠ some 48 := by
 induction u using Nat.strongRecOn with
 | _ u ih =>
  rw [decDigits]
  split
  ·rename_i h1
   have e : (UInt8.ofNat (48 + u)).toNat = 48 + u := ofNat_toNat8 _ (by omega)
   intro hc
   simp only [List.head?_cons, Option.some.injEq] at hc
   rw [hc] at e; simp at e; omega
  ·rename_i h1
   have := ih (u / 10) (by omega) (by omega)
   cases hd : decDigits (u / 10) with
   | nil => exact absurd hd (dec_ne _)
   | cons a r => rw [hd] at this; simpa using this
theorem dec_good (u m : Nat) (h : (decDigits u).length ≤ m) : GoodD (decDigits u) m := by
 refine ⟨fun c hc => ?_, ?_⟩
 ·have := dec_digit u c hc
  unfold digitB at this
  simp only [Bool.and_eq_true, decide_eq_true_eq] at this
  unfold inB
  simp only [Bool.and_eq_true, decide_eq_true_eq]
  omega
 ·unfold numeralB
  have hp : 0 < (decDigits u).length := List.length_pos_iff.2 (dec_ne u)
  have hl : (decDigits u).length = 1 ∨ (decDigits u).head? ≠ some 48 := by
   rcases Nat.eq_zero_or_pos u with rfl | hu
   ·left; rw [decDigits]; simp
   ·exact Or.inr (dec_head u hu)
  simp only [Bool.and_eq_true, Bool.or_eq_true, decide_eq_true_eq, bne_iff_ne]
  exact ⟨⟨hp, h⟩, hl⟩
theorem dec_len2 (u : Nat) (h : u ≤ 99) : (decDigits u).length ≤ 2 := by
 rw [decDigits]; split
 ·simp
 ·rw [decDigits]; split
  ·simp
  ·omega
theorem dec_len3 (u : Nat) (h : u ≤ 999) : (decDigits u).length ≤ 3 := by
 rw [decDigits]; split
 ·simp
 ·rw [decDigits]; split
  ·simp
  ·rw [decDigits]; split
   ·simp
   ·omega
def nameL (n : Nat) : List UInt8 := [UInt8.ofNat (97 + n / 26 % 26), UInt8.ofNat (97 + n % 26), 118]
theorem nameL_inj {a b : Nat} (ha : a < 676) (hb : b < 676) (h : nameL a = nameL b) : a = b := by
 simp only [nameL, List.cons.injEq, and_true] at h
 have h1 := congrArg UInt8.toNat h.1
 have h2 := congrArg UInt8.toNat h.2
 rw [ofNat_toNat8 _ (by omega), ofNat_toNat8 _ (by omega)] at h1 h2
 omega
theorem nameL_good (n : Nat) : GoodN (nameL n) := by
 refine ⟨by simp [nameL], fun c hc => ?_, by simp [nameL], ?_⟩
 ·simp only [nameL, List.mem_cons, List.not_mem_nil, or_false] at hc
  have e1 : (UInt8.ofNat (97 + n / 26 % 26)).toNat = 97 + n / 26 % 26 := ofNat_toNat8 _ (by omega)
  have e2 : (UInt8.ofNat (97 + n % 26)).toNat = 97 + n % 26 := ofNat_toNat8 _ (by omega)
  unfold inB
  simp only [Bool.and_eq_true, decide_eq_true_eq]
  rcases hc with rfl | rfl | rfl
  ·omega
  ·omega
  ·decide
 ·cases h : kwOf (nameL n) with
  | none => rfl
  | some k =>
   have := kwOf_some h
   cases k <;> simp [nameL, Kw.bytes] at this
def bindN (k : Kw) (n : Nat) : List UInt8 := if k = .let_ ∨ k = .loop then nameL n else []
def KE.pt (rg : List UInt8) : KE → PT
 | .num n => .num 0 (decDigits n)
 | .var n => .name 0 (nameL n)
 | .n1 k a => .node 0 k [] [] [a.pt rg]
 | .n2 k n a b => .node 0 k (bindN k n) (if k = .pair then rg else []) [a.pt rg, b.pt rg]
 | .n3 k n a b c => .node 0 k (bindN k n) [] [a.pt rg, b.pt rg, c.pt rg]
theorem pt_np (rg : List UInt8) : ∀ x : KE, (x.pt rg).np = x.pt rg
 | .num _ => rfl
 | .var _ => rfl
 | .n1 _ a => by simp only [KE.pt, PT.np, npL, pt_np rg a]
 | .n2 _ _ a b => by simp only [KE.pt, PT.np, npL, pt_np rg a, pt_np rg b]
 | .n3 _ _ a b c => by simp only [KE.pt, PT.np, npL, pt_np rg a, pt_np rg b, pt_np rg c]
theorem pt_prs (rg : List UInt8) : ∀ {vs : List Nat} {x : KE} {t : Nat}, KT vs x t → (x.pt rg).prs = x.prs := by
 intro vs x t h
 induction h with
 | num _ => rfl
 | var _ => rfl
 | let_ _ _ _ _ ha hb => simp [KE.pt, PT.prs, prsL, KE.prs, ha, hb]
 | if_ _ _ _ ha hb hc => simp [KE.pt, PT.prs, prsL, KE.prs, ha, hb, hc]; omega
 | loop _ _ _ _ ha hb hc => simp [KE.pt, PT.prs, prsL, KE.prs, ha, hb, hc]; omega
 | pair _ _ _ _ ha hb => simp [KE.pt, PT.prs, prsL, KE.prs, ha, hb]; omega
 | fst _ _ _ ha => simp [KE.pt, PT.prs, prsL, KE.prs, ha]
 | snd _ _ _ ha => simp [KE.pt, PT.prs, prsL, KE.prs, ha]
 | two hk _ _ ha hb => rcases hk with rfl | rfl | rfl <;> simp [KE.pt, PT.prs, prsL, KE.prs, ha, hb]
def RgOk (placed : Bool) (rg : List UInt8) : Prop := if placed = true then ∃ d, rg = 35 :: d ∧ GoodD d 3 else rg = []
theorem pt_ok {placed : Bool} {rg : List UInt8} (hr : RgOk placed rg) : ∀ {vs : List Nat} {x : KE} {t : Nat}, KT vs x t → (x.pt rg).ok placed := by
 intro vs x t h
 unfold RgOk at hr
 induction h with
 | num h => simp only [KE.pt, PT.ok]; exact dec_good _ 4 (Nat.le_trans (dec_len2 _ (by omega)) (by omega))
 | var _ => simp only [KE.pt, PT.ok]; exact nameL_good _
 | let_ _ _ _ _ ha hb => simp [KE.pt, PT.ok, okL, bindN, wantsK, arity, nameL_good, ha, hb]
 | if_ _ _ _ ha hb hc => simp [KE.pt, PT.ok, okL, bindN, wantsK, arity, ha, hb, hc]
 | loop _ _ _ _ ha hb hc => simp [KE.pt, PT.ok, okL, bindN, wantsK, arity, nameL_good, ha, hb, hc]
 | pair _ _ _ _ ha hb =>
  cases placed with
  | true => simp [KE.pt, PT.ok, okL, bindN, wantsK, arity, ha, hb]; simpa using hr
  | false => simp [KE.pt, PT.ok, okL, bindN, wantsK, arity, ha, hb]; simpa using hr
 | fst _ _ _ ha => simp [KE.pt, PT.ok, okL, wantsK, arity, ha]
 | snd _ _ _ ha => simp [KE.pt, PT.ok, okL, wantsK, arity, ha]
 | two hk _ _ ha hb => rcases hk with rfl | rfl | rfl <;> simp [KE.pt, PT.ok, okL, bindN, wantsK, arity, ha, hb]
theorem pt_len {rg : List UInt8} : ∀ {vs : List Nat} {x : KE} {t : Nat}, KT vs x t → (x.pt rg).tidy.length ≤ x.len + x.prs * (rg.length + 1) := by
 intro vs x t h
 induction h with
 | num h => simp only [KE.pt, PT.tidy, KE.len, KE.prs]; exact Nat.le_trans (dec_len2 _ (by omega)) (by omega)
 | var _ => simp [KE.pt, PT.tidy, KE.len, KE.prs, nameL]
 | let_ _ _ _ _ ha hb => simp [KE.pt, PT.tidy, tidyL, joinT, pieceT, KE.len, KE.prs, regT, bindN, nameL, Kw.bytes, Nat.add_mul]; omega
 | if_ _ _ _ ha hb hc => simp [KE.pt, PT.tidy, tidyL, joinT, pieceT, KE.len, KE.prs, regT, bindN, Kw.bytes, Nat.add_mul]; omega
 | loop _ _ _ _ ha hb hc => simp [KE.pt, PT.tidy, tidyL, joinT, pieceT, KE.len, KE.prs, regT, bindN, nameL, Kw.bytes, Nat.add_mul]; omega
 | pair _ _ _ _ ha hb =>
  simp only [KE.pt, PT.tidy, tidyL, joinT, pieceT, KE.len, KE.prs, regT, bindN, Kw.bytes, Nat.add_mul, if_true]
  by_cases hr : rg = []
  ·subst hr; simp; simp at ha hb; omega
  ·simp [hr]; omega
 | fst _ _ _ ha => simp [KE.pt, PT.tidy, tidyL, joinT, pieceT, KE.len, KE.prs, regT, Kw.bytes]; omega
 | snd _ _ _ ha => simp [KE.pt, PT.tidy, tidyL, joinT, pieceT, KE.len, KE.prs, regT, Kw.bytes]; omega
 | two hk _ _ ha hb => rcases hk with rfl | rfl | rfl <;> simp [KE.pt, PT.tidy, tidyL, joinT, pieceT, KE.len, KE.prs, regT, bindN, Kw.bytes, Nat.add_mul] <;> omega
def tyJ (t : Nat) : Ty := if t = 0 then .n else .p 0 .n .n
def tyZ (t : Nat) : Ty := if t = 0 then .n else .p 0 (tyJ (fT t)) (tyJ (sT t))
theorem tyZ_pair {t : Nat} (ht : t < 5) (h0 : t ≠ 0) : tyZ t = .p 0 (tyZ (fT t)) (tyZ (sT t)) := by
 match t, ht, h0 with
 | 1, _, _ => rfl
 | 2, _, _ => rfl
 | 3, _, _ => rfl
 | 4, _, _ => rfl
theorem tyZ_size (t : Nat) : (tyZ t).size ≤ 3 := by
 have hj : ∀ t, (tyJ t).size ≤ 1 := fun t => by unfold tyJ; split <;> simp [Ty.size]
 unfold tyZ
 split
 ·simp [Ty.size]
 ·have := hj (fT t); have := hj (sT t); simp only [Ty.size]; omega
theorem look_snoc' (env : TEnv) (nm s : List UInt8) (T : Ty) : look (env ++ [(nm, T)]) s = if nm = s then some T else look env s := by
 unfold look
 rw [List.reverse_append, List.reverse_singleton, List.singleton_append, List.find?_cons]
 by_cases h : nm = s
 ·subst h; simp
 ·have : (nm == s) = false := by rw [beq_eq_false_iff_ne]; exact h
  simp only [this, if_neg h]
theorem lookV_snoc' (env : VEnv) (nm s : List UInt8) (v : Vl) : lookV (env ++ [(nm, v)]) s = if nm = s then v else lookV env s := by
 unfold lookV
 rw [List.reverse_append, List.reverse_singleton, List.singleton_append, List.find?_cons]
 by_cases h : nm = s
 ·subst h; simp
 ·have : (nm == s) = false := by rw [beq_eq_false_iff_ne]; exact h
  simp only [this, if_neg h]
def envT (vs : List Nat) : TEnv := vs.mapIdx (fun i t => (nameL i, tyZ t))
def envV (vs : List Vl) : VEnv := vs.mapIdx (fun i v => (nameL i, v))
theorem envT_snoc (vs : List Nat) (t : Nat) : envT (vs ++ [t]) = envT vs ++ [(nameL vs.length, tyZ t)] := by unfold envT; rw [List.mapIdx_concat]
theorem envV_snoc (vs : List Vl) (v : Vl) : envV (vs ++ [v]) = envV vs ++ [(nameL vs.length, v)] := by unfold envV; rw [List.mapIdx_concat]
theorem look_envT (vs : List Nat) (n t : Nat) (h : vs[n]? = some t) (hl : vs.length ≤ 600) : look (envT vs) (nameL n) = some (tyZ t) := by
 have hn : n < vs.length := by
  rcases Nat.lt_or_ge n vs.length with h1 | h1
  ·exact h1
  ·rw [List.getElem?_eq_none h1] at h; cases h
 have key : ∀ k, n < k → k ≤ vs.length → look (envT (vs.take k)) (nameL n) = some (tyZ t) := by
  intro k
  induction k with
  | zero => intro h; omega
  | succ k ih =>
   intro h1 h2
   rw [List.take_succ_eq_append_getElem (by omega), envT_snoc, look_snoc', List.length_take, Nat.min_eq_left (by omega)]
   by_cases e : k = n
   ·subst e
    rw [if_pos rfl]
    rw [List.getElem?_eq_getElem (by omega)] at h
    simp only [Option.some.injEq] at h
    rw [h]
   ·rw [if_neg (fun hc => e (nameL_inj (by omega) (by omega) hc))]
    exact ih (by omega) (by omega)
 have := key vs.length hn (Nat.le_refl _)
 rwa [List.take_length] at this
theorem look_envV (vs : List Vl) (n : Nat) (hn : n < vs.length) (hl : vs.length ≤ 600) : lookV (envV vs) (nameL n) = vs[n] := by
 have key : ∀ k, n < k → k ≤ vs.length → lookV (envV (vs.take k)) (nameL n) = vs[n] := by
  intro k
  induction k with
  | zero => intro h; omega
  | succ k ih =>
   intro h1 h2
   rw [List.take_succ_eq_append_getElem (by omega), envV_snoc, lookV_snoc', List.length_take, Nat.min_eq_left (by omega)]
   by_cases e : k = n
   ·subst e; rw [if_pos rfl]
   ·rw [if_neg (fun hc => e (nameL_inj (by omega) (by omega) hc))]
    exact ih (by omega) (by omega)
 have := key vs.length hn (Nat.le_refl _)
 rwa [List.take_length] at this
theorem pt_WT {rg : List UInt8} : ∀ {vs : List Nat} {x : KE} {t : Nat}, KT vs x t → vs.length ≤ 100 → WT (envT vs) (x.pt rg) (tyZ t) := by
 intro vs x t h
 induction h with
 | num _ => intro _; exact .num
 | var h => intro hl; exact .name (look_envT _ _ _ h (by omega))
 | let_ _ hl _ _ ha hb => intro _; simp only [KE.pt]; exact .let_ (ha (by omega)) (by have := hb (by simp; omega); rw [envT_snoc] at this; simpa [bindN] using this)
 | if_ _ _ _ ha hb hc => intro hl; simp only [KE.pt]; exact .if_ (ha hl) (hb hl) (hc hl)
 | loop hl _ _ _ ha hb hc => intro _; simp only [KE.pt]; exact .loop (ha (by omega)) (hb (by omega)) (by have := hc (by simp; omega); rw [envT_snoc] at this; simpa [bindN] using this)
 | pair h0 ht _ _ ha hb =>
  intro hl
  simp only [KE.pt]
  have hs := tyZ_size ‹Nat›
  rw [tyZ_pair ht h0]
  exact .pair (ha hl) (hb hl) (by rw [← tyZ_pair ht h0]; have := tyZ_size ‹Nat›; omega)
 | fst h0 hp _ ha => intro hl; simp only [KE.pt]; have := ha hl; rw [tyZ_pair hp h0] at this; exact .fst this
 | snd h0 hp _ ha => intro hl; simp only [KE.pt]; have := ha hl; rw [tyZ_pair hp h0] at this; exact .snd this
 | two hk _ _ ha hb => intro hl; simp only [KE.pt]; exact .two hk (ha hl) (hb hl)
end Go.Proofs.YtpicaknklgccoaaGreatDoor
namespace Go.Proofs.YtpicaknklgccoaaGreatDoor
open Go.RowKit
open Go.Lib (decDigits)
theorem Tryz.undBytesZ : Tryz.prog.underlying 121 = some (.slice 5) := by kernel_rfl
theorem Tryz.undStrZ : Tryz.prog.underlying 9 = some .string := by kernel_rfl
theorem Tryz.undU8Z : Tryz.prog.underlying 5 = some (.int .u8) := by kernel_rfl
set_option maxRecDepth 100000 in
theorem kname_any (n : Nat) (hn : n ≤ 1000) (w : World) : Calls Tryz.prog 50 #[.int .i64 n] w fun e w' => e = .returned (.string (bs (nameL n))) ∧ Below w.heap.size w w' := by
 have hcv : (convert 121 9 (.slice (some ⟨w.heap.size, 0, none⟩) 3 3)).run Tryz.prog (w.alloc (.cells #[.int .u8 (97 + ((n / 26 % 26 : Nat) : Int)), .int .u8 (97 + ((n % 26 : Nat) : Int)), .int .u8 118] 5 (0, 0))) = .ok (.string (bs (nameL n))) (w.alloc (.cells #[.int .u8 (97 + ((n / 26 % 26 : Nat) : Int)), .int .u8 (97 + ((n % 26 : Nat) : Int)), .int .u8 118] 5 (0, 0))) := by
  refine Lib.run_convert_whole (P := Tryz.prog) _ _ _ _ Tryz.undBytesZ Tryz.undU8Z Tryz.undStrZ w.heap.size 0 (bs (nameL n)) ?_ 3
  intro i hi
  have hi3 : i < 3 := hi
  have e1 : (UInt8.ofNat (97 + n / 26 % 26)).toNat = 97 + n / 26 % 26 := ofNat_toNat8 _ (by omega)
  have e2 : (UInt8.ofNat (97 + n % 26)).toNat = 97 + n % 26 := ofNat_toNat8 _ (by omega)
  rw [blk_cell (blk_new w _)]
  match i, hi3 with
  | 0, _ =>
   show some (Value.int .u8 (97 + ((n / 26 % 26 : Nat) : Int))) = some (Value.int .u8 ((UInt8.ofNat (97 + n / 26 % 26)).toNat : Int))
   rw [e1]; rfl
  | 1, _ =>
   show some (Value.int .u8 (97 + ((n % 26 : Nat) : Int))) = some (Value.int .u8 ((UInt8.ofNat (97 + n % 26)).toNat : Int))
   rw [e2]; rfl
  | 2, _ => rfl
 obtain ⟨a, ha⟩ : ∃ a, a = n / 26 % 26 := ⟨_, rfl⟩
 obtain ⟨b, hb⟩ : ∃ b, b = n % 26 := ⟨_, rfl⟩
 have hal : a < 26 := by omega
 have hbl : b < 26 := by omega
 have e1 : (n : Int) / 26 % 26 = (a : Int) := by omega
 have e2 : (n : Int) % 26 = (b : Int) := by omega
 rw [← ha, ← hb] at hcv
 clear ha hb
 go_enter Tryz.func50, Tryz.ntmps50
 go_wp2
 go_ret
 exact ⟨rfl, below_alZ (Below.refl _ _) _⟩
def accZ (pre : List UInt8) (k : Kw) (nm : List UInt8) (ts : List (List UInt8)) (j : Nat) : List UInt8 := pre ++ joinT k nm 0 (ts.take j)
theorem accZ_succ (pre : List UInt8) (k : Kw) (nm : List UInt8) (ts : List (List UInt8)) (j : Nat) (x : List UInt8) (hx : ts[j]? = some x) : accZ pre k nm ts (j + 1) = accZ pre k nm ts j ++ pieceT k nm j x := by
 have hj : j < ts.length := by
  rcases Nat.lt_or_ge j ts.length with h | h
  ·exact h
  ·rw [List.getElem?_eq_none h] at hx; cases hx
 unfold accZ
 rw [List.take_add_one, hx, Option.toList_some, joinT_snoc, List.length_take, Nat.min_eq_left (by omega), Nat.zero_add, List.append_assoc]
theorem joinT_app (k : Kw) (nm : List UInt8) : ∀ (a b : List (List UInt8)) (i : Nat), joinT k nm i (a ++ b) = joinT k nm i a ++ joinT k nm (i + a.length) b
 | [], b, i => by simp [joinT]
 | x :: r, b, i => by
  simp only [List.cons_append, joinT, joinT_app k nm r b (i + 1), List.append_assoc, List.length_cons]
  rw [show i + 1 + r.length = i + (r.length + 1) by omega]
theorem accZ_le (pre : List UInt8) (k : Kw) (nm : List UInt8) (ts : List (List UInt8)) (j : Nat) : (accZ pre k nm ts j).length ≤ pre.length + (joinT k nm 0 ts).length := by
 unfold accZ
 have h : joinT k nm 0 ts = joinT k nm 0 (ts.take j) ++ joinT k nm (0 + (ts.take j).length) (ts.drop j) := by rw [← joinT_app, List.take_append_drop]
 rw [h]; simp
theorem joinT_mem (k : Kw) (nm : List UInt8) : ∀ (ts : List (List UInt8)) (i : Nat) (x : List UInt8), x ∈ ts → x.length + 1 ≤ (joinT k nm i ts).length
 | [], _, _, h => by simp at h
 | t :: r, i, x, h => by
  simp only [joinT, List.length_append]
  rcases List.mem_cons.1 h with h | h
  ·subst h; unfold pieceT; simp; try omega
  ·have := joinT_mem k nm r (i + 1) x h; omega
def KE.kids : KE → List KE
 | .num _ => []
 | .var _ => []
 | .n1 _ a => [a]
 | .n2 _ _ a b => [a, b]
 | .n3 _ _ a b c => [a, b, c]
def KText (rg : List UInt8) (x : KE) : Prop := ∀ (p : Nat) (w : World), KIn w x p → (x.pt rg).tidy.length ≤ 100000 → (∀ W, Below w.heap.size w W → ItoaOk W) →
 Calls Tryz.prog 22 #[.pointer (some ⟨p, 0, none⟩), .string (bs (regT rg))] w fun e w' => e = .returned (.string (bs (x.pt rg).tidy)) ∧ Below w.heap.size w w'
set_option maxRecDepth 100000 in
theorem text_num (rg : List UInt8) (n : Nat) (hn : n ≤ 9999) : KText rg (.num n) := by
 intro p w hx _ hit
 have hx' : w.heap[p]? = some (.cells (exV [] n (.slice none 0 0)) 98 (0, 0)) := hx
 have hp := blk_lt hx'
 have x0 : w.cell? ⟨p, 0, none⟩ = some (.string ⟨#[]⟩) := by rw [blk_cell hx']; rfl
 have x1 : w.cell? ⟨p, 1, none⟩ = some (.int .i64 n) := by rw [blk_cell hx']; rfl
 have hi := hit w (Below.refl _ _) n w hn (Below.refl _ _)
 have HI : Hid _ := hi
 simp only [KE.pt, PT.tidy]
 clear hx hx' hi hit
 go_enter Tryz.func22, Tryz.ntmps22
 go_wp2_with fail
 refine Calls.mono HI.out ?_
 rintro _ w2 ⟨rfl, hb⟩
 go_wp2
 go_ret
 exact ⟨rfl, hb⟩
set_option maxRecDepth 100000 in
theorem text_var (rg : List UInt8) (n : Nat) (hn : n ≤ 1000) : KText rg (.var n) := by
 intro p w hx _ _
 have hx' : w.heap[p]? = some (.cells (exV [120] n (.slice none 0 0)) 98 (0, 0)) := hx
 have hp := blk_lt hx'
 have x0 : w.cell? ⟨p, 0, none⟩ = some (.string ⟨#[120]⟩) := by rw [blk_cell hx']; rfl
 have x1 : w.cell? ⟨p, 1, none⟩ = some (.int .i64 n) := by rw [blk_cell hx']; rfl
 have HI : Hid _ := kname_any n hn w
 simp only [KE.pt, PT.tidy]
 clear hx hx'
 go_enter Tryz.func22, Tryz.ntmps22
 go_wp2_with fail
 refine Calls.mono HI.out ?_
 rintro _ w2 ⟨rfl, hb⟩
 go_wp2
 go_ret
 exact ⟨rfl, hb⟩
theorem join_bind (k : Kw) (n : Nat) : ∀ (l : List (List UInt8)) (i : Nat), joinT k (bindN k n) i l = joinT k (nameL n) i l
 | [], _ => rfl
 | x :: r, i => by
  simp only [joinT]
  rw [join_bind k n r (i + 1)]
  congr 1
  unfold pieceT
  split
  ·rename_i h
   unfold bindN
   rw [if_pos (h.elim (fun h => Or.inl h.1) (fun h => Or.inr h.1))]
  ·rfl
def KNode (w : World) (p : Nat) (k : Kw) (n : Nat) (ks : List KE) : Prop := ∃ c : Nat, c < w.heap.size ∧ w.heap[p]? = some (.cells (exV k.bytes n (.slice (some ⟨c, 0, none⟩) ks.length ks.length)) 98 (0, 0)) ∧ ∀ (j : Nat) (y : KE), ks[j]? = some y → ∃ q : Nat, w.cell? ⟨c, j, none⟩ = some (.pointer (some ⟨q, 0, none⟩)) ∧ KIn w y q
theorem knode1 {w : World} {p : Nat} {k : Kw} {a : KE} (h : KIn w (.n1 k a) p) : KNode w p k 0 [a] := by
 obtain ⟨c, pa, h1, h2, h3⟩ := h
 refine ⟨c, blk_lt h2, h1, fun j y hj => ?_⟩
 match j, hj with
 | 0, hj => simp at hj; subst hj; exact ⟨pa, by rw [blk_cell h2]; rfl, h3⟩
 | j + 1, hj => simp at hj
theorem knode2 {w : World} {p : Nat} {k : Kw} {n : Nat} {a b : KE} (h : KIn w (.n2 k n a b) p) : KNode w p k n [a, b] := by
 obtain ⟨c, pa, pb, h1, h2, h3, h4⟩ := h
 refine ⟨c, blk_lt h2, h1, fun j y hj => ?_⟩
 match j, hj with
 | 0, hj => simp at hj; subst hj; exact ⟨pa, by rw [blk_cell h2]; rfl, h3⟩
 | 1, hj => simp at hj; subst hj; exact ⟨pb, by rw [blk_cell h2]; rfl, h4⟩
 | j + 2, hj => simp at hj
theorem knode3 {w : World} {p : Nat} {k : Kw} {n : Nat} {a b d : KE} (h : KIn w (.n3 k n a b d) p) : KNode w p k n [a, b, d] := by
 obtain ⟨c, pa, pb, pd, h1, h2, h3, h4, h5⟩ := h
 refine ⟨c, blk_lt h2, h1, fun j y hj => ?_⟩
 match j, hj with
 | 0, hj => simp at hj; subst hj; exact ⟨pa, by rw [blk_cell h2]; rfl, h3⟩
 | 1, hj => simp at hj; subst hj; exact ⟨pb, by rw [blk_cell h2]; rfl, h4⟩
 | 2, hj => simp at hj; subst hj; exact ⟨pd, by rw [blk_cell h2]; rfl, h5⟩
 | j + 3, hj => simp at hj
set_option maxRecDepth 100000 in
set_option maxHeartbeats 4000000 in
theorem text_node (rg : List UInt8) (x : KE) (k : Kw) (n : Nat) (ks : List KE) (hkn : k ≠ .new) (hn : n ≤ 1000)
  (hpt : (x.pt rg).tidy = 40 :: (k.bytes ++ ((if k = .pair then regT rg else []) ++ (joinT k (nameL n) 0 (ks.map (fun y => (y.pt rg).tidy)) ++ [41]))))
  (hin : ∀ w p, KIn w x p → KNode w p k n ks) (hk3 : ks.length ≤ 3) (ih : ∀ y ∈ ks, KText rg y) : KText rg x := by
 intro p w hx hlen hit
 obtain ⟨c, hc, hb, hkid⟩ := hin w p hx
 have hp := blk_lt hb
 have x0 : w.cell? ⟨p, 0, none⟩ = some (.string (bs k.bytes)) := by rw [blk_cell hb]; rfl
 have x1 : w.cell? ⟨p, 1, none⟩ = some (.int .i64 n) := by rw [blk_cell hb]; rfl
 have x2 : w.cell? ⟨p, 2, none⟩ = some (.slice (some ⟨c, 0, none⟩) ks.length ks.length) := by rw [blk_cell hb]; rfl
 have h1 : ((bs k.bytes).toList == []) = false := by rw [bs_beq0]; cases k <;> decide
 have h2 : ((bs k.bytes).toList == [120]) = false := by rw [bs_beq0]; cases k <;> decide
 obtain ⟨bp, hbp⟩ : ∃ bp, ((bs k.bytes).toList == [112, 97, 105, 114]) = bp := ⟨_, rfl⟩
 obtain ⟨bl, hl⟩ : ∃ bl, ((bs k.bytes).toList == [108, 101, 116]) = bl := ⟨_, rfl⟩
 obtain ⟨bo, ho⟩ : ∃ bo, ((bs k.bytes).toList == [108, 111, 111, 112]) = bo := ⟨_, rfl⟩
 have hP : bp = decide (k = .pair) := by rw [← hbp, bs_beq0]; cases k <;> decide
 have hL : bl = decide (k = .let_) := by rw [← hl, bs_beq0]; cases k <;> decide
 have hO : bo = decide (k = .loop) := by rw [← ho, bs_beq0]; cases k <;> decide
 have hLO : ¬ (bl = true ∧ bo = true) := by rw [hL, hO]; cases k <;> simp
 obtain ⟨ts, hts⟩ : ∃ ts, ts = ks.map (fun y => (y.pt rg).tidy) := ⟨_, rfl⟩
 have htl : ts.length = ks.length := by rw [hts]; simp
 obtain ⟨pre, hpre⟩ : ∃ pre, pre = 40 :: (k.bytes ++ (if k = .pair then regT rg else [])) := ⟨_, rfl⟩
 rw [← hts] at hpt
 have hfin : accZ pre k (nameL n) ts ks.length ++ [41] = (x.pt rg).tidy := by
  rw [hpt, hpre]; unfold accZ; rw [← htl, List.take_length]; simp
 have hlenp : pre.length + (joinT k (nameL n) 0 ts).length + 1 = (x.pt rg).tidy.length := by rw [hpt, hpre]; simp; omega
 have hacc := fun j => accZ_le pre k (nameL n) ts j
 have hall : ∀ j, (hj : j < ks.length) → ∀ w', Below w.heap.size w w' → ∃ (q : Nat) (tx : List UInt8), w'.cell? ⟨c, j, none⟩ = some (.pointer (some ⟨q, 0, none⟩)) ∧ ts[j]? = some tx ∧ tx.length ≤ 100000 ∧
   Calls Tryz.prog 22 #[.pointer (some ⟨q, 0, none⟩), .string (bs (regT rg))] w' (fun e w'' => e = .returned (.string (bs tx)) ∧ Below w'.heap.size w' w'') := by
  intro j hj w' hw'
  obtain ⟨q, hq, hy⟩ := hkid j ks[j] (List.getElem?_eq_getElem hj)
  have htx : ts[j]? = some (ks[j].pt rg).tidy := by rw [hts, List.getElem?_map, List.getElem?_eq_getElem hj]; rfl
  have hm := joinT_mem k (nameL n) ts 0 _ (List.mem_of_getElem? htx)
  exact ⟨q, _, (hw'.cell (p := ⟨c, j, none⟩) hc).trans hq, htx, by omega, ih ks[j] (List.getElem_mem hj) q w' (hy.below hw') (by omega) (fun W hW => hit W (hw'.trans (hW.mono hw'.size)))⟩
 have hnm := fun W => kname_any n hn W
 have hkb : k.bytes.length ≤ 4 := by cases k <;> decide
 have hrl : (regT rg).length ≤ 100000 ∨ k ≠ .pair := by
  by_cases h : k = .pair
  ·left; rw [hpre, if_pos h] at hlenp; simp at hlenp; omega
  ·exact Or.inr h
 have hz : ∀ j, (bs (accZ pre k (nameL n) ts j)).size ≤ 100000 := fun j => by rw [bs_size]; have := hacc j; omega
 have HALL : Hid _ := hall
 have HNM : Hid _ := hnm
 have HFIN : Hid _ := hfin
 have HL : Hid _ := hL
 have HO : Hid _ := hO
 have HZ : Hid _ := hz
 have z1 : (ByteArray.mk #[40]).size = 1 := rfl
 have z2 : (bs k.bytes).size ≤ 4 := by rw [bs_size]; exact hkb
 have z3 : (bs (nameL n)).size = 3 := rfl
 have zR : bp = true → (bs (regT rg)).size ≤ 100000 := by
  intro h; rw [bs_size]; rw [hP, decide_eq_true_eq] at h
  rcases hrl with h1 | h1
  ·exact h1
  ·exact absurd h h1
 have e0 : bp = true → ByteArray.mk #[40] ++ bs k.bytes ++ bs (regT rg) = bs (accZ pre k (nameL n) ts 0) := by
  intro h
  rw [hP, decide_eq_true_eq] at h
  rw [show ByteArray.mk #[40] = bs [40] from rfl, bs_app, bs_app, hpre, if_pos h]; simp [accZ, joinT]
 have e1 : bp = false → ByteArray.mk #[40] ++ bs k.bytes = bs (accZ pre k (nameL n) ts 0) := by
  intro h
  rw [hP, decide_eq_false_iff_not] at h
  rw [show ByteArray.mk #[40] = bs [40] from rfl, bs_app, hpre, if_neg h]; simp [accZ, joinT]
 have zS : (ByteArray.mk #[40] ++ bs k.bytes).size ≤ 5 := by rw [ByteArray.size_append]; omega
 have E0 : Hid _ := e0
 have E1 : Hid _ := e1
 have ZR : Hid _ := zR
 clear hall hx hkid ih hit hL hO hP hpt hin hfin hpre hts hacc hnm hz e0 e1 zR hb hrl hlen hlenp hkb
 go_enter Tryz.func22, Tryz.ntmps22
 cases bp
 all_goals
  first
  | (have ee0 : Hid _ := E1.out rfl)
  | (have ee0 : Hid _ := E0.out rfl)
  first
  | (have zR := ZR.out rfl)
  | skip
  clear E0 E1 ZR
  go_wp2_with fail
  go_loopw [5, 6] (fun v i wr => ∃ j : Nat, j ≤ ks.length ∧ i = .int .i64 j ∧ v = .string (bs (accZ pre k (nameL n) ts j)) ∧ Below w.heap.size w wr) (fun _ i _ => ks.length - (intOf i).toNat)
  case atStart => exact ⟨0, by omega, rfl, by rw [← ee0.out], Below.refl _ _⟩
  case round =>
   obtain ⟨j, hj, rfl, rfl, hbel⟩ := hrel
   have hsz := hbel.size
   have q0 : wr.cell? ⟨p, 0, none⟩ = some (.string (bs k.bytes)) := (hbel.cell (p := ⟨p, 0, none⟩) hp).trans x0
   have q1 : wr.cell? ⟨p, 1, none⟩ = some (.int .i64 n) := (hbel.cell (p := ⟨p, 1, none⟩) hp).trans x1
   have q2 : wr.cell? ⟨p, 2, none⟩ = some (.slice (some ⟨c, 0, none⟩) ks.length ks.length) := (hbel.cell (p := ⟨p, 2, none⟩) hp).trans x2
   have hpr : p < wr.heap.size := by omega
   have hcr : c < wr.heap.size := by omega
   have zA := HZ.out j
   have z4 : (ByteArray.mk #[32]).size = 1 := rfl
   have z5 : (ByteArray.mk #[41]).size = 1 := rfl
   have HB : Hid _ := hbel
   by_cases hlt : j < ks.length
   ·have hnx : ∀ tx, ts[j]? = some tx → accZ pre k (nameL n) ts (j + 1) = accZ pre k (nameL n) ts j ++ pieceT k (nameL n) j tx := fun tx htx => accZ_succ pre k (nameL n) ts j tx htx
    have HNX : Hid _ := hnx
    have zB : (bs (accZ pre k (nameL n) ts j) ++ ByteArray.mk #[32]).size ≤ 100001 := by rw [ByteArray.size_append]; omega
    have zC : (bs (accZ pre k (nameL n) ts j) ++ ByteArray.mk #[32] ++ bs (nameL n)).size ≤ 100004 := by rw [ByteArray.size_append]; omega
    have zD : (bs (accZ pre k (nameL n) ts j) ++ ByteArray.mk #[32] ++ bs (nameL n) ++ ByteArray.mk #[32]).size ≤ 100005 := by rw [ByteArray.size_append]; omega
    have eN : ((bl = true ∧ j = 0) ∨ (bo = true ∧ j = 1)) → ∀ tx, ts[j]? = some tx → bs (accZ pre k (nameL n) ts j) ++ ByteArray.mk #[32] ++ bs (nameL n) ++ ByteArray.mk #[32] ++ bs tx = bs (accZ pre k (nameL n) ts (j + 1)) := by
     intro hcd tx htx
     rw [HL.out, HO.out, decide_eq_true_eq, decide_eq_true_eq] at hcd
     rw [HNX.out tx htx, show ByteArray.mk #[32] = bs [32] from rfl, bs_app, bs_app, bs_app, bs_app]
     unfold pieceT; rw [if_pos hcd]; simp
    have eP : ¬ ((bl = true ∧ j = 0) ∨ (bo = true ∧ j = 1)) → ∀ tx, ts[j]? = some tx → bs (accZ pre k (nameL n) ts j) ++ ByteArray.mk #[32] ++ bs tx = bs (accZ pre k (nameL n) ts (j + 1)) := by
     intro hcd tx htx
     rw [HL.out, HO.out, decide_eq_true_eq, decide_eq_true_eq] at hcd
     rw [HNX.out tx htx, show ByteArray.mk #[32] = bs [32] from rfl, bs_app, bs_app]
     unfold pieceT; rw [if_neg hcd]; simp
    have EN : Hid _ := eN
    have EP : Hid _ := eP
    clear eN eP hnx hbel
    by_cases hcd : (bl = true ∧ j = 0) ∨ (bo = true ∧ j = 1)
    ·have HEE : Hid _ := EN.out hcd
     clear EN EP HNX HL HO HZ
     have hbr : (bl = true ∧ j = 0) ∨ (bl = false ∧ bo = true ∧ j = 1) := by
      rcases hcd with h | h
      ·exact Or.inl h
      ·right
       refine ⟨?_, h⟩
       cases bl with
       | false => rfl
       | true => exact absurd ⟨rfl, h.1⟩ hLO
     clear hcd hLO
     have hbq : (bl = true ∧ ((j : Int) == 0) = true) ∨ (bl = false ∧ bo = true ∧ ((j : Int) == 1) = true) := by
      rcases hbr with ⟨h1, h2⟩ | ⟨h1, h2, h3⟩
      ·exact Or.inl ⟨h1, by rw [h2]; rfl⟩
      ·exact Or.inr ⟨h1, h2, by rw [h3]; rfl⟩
     clear hbr
     rcases hbq with ⟨rfl, hqj⟩ | ⟨rfl, rfl, hqj⟩
     all_goals
      go_wp2_with fail
      refine Calls.mono (HNM.out _) ?_
      rintro _ w1 ⟨rfl, hb1⟩
      have HB1 : Hid _ := HB.out.trans (hb1.mono hsz)
      have r2 : w1.cell? ⟨p, 2, none⟩ = some (.slice (some ⟨c, 0, none⟩) ks.length ks.length) := (HB1.out.cell (p := ⟨p, 2, none⟩) hp).trans x2
      have hpr1 : p < w1.heap.size := by have := HB1.out.size; omega
      have hcr1 : c < w1.heap.size := by have := HB1.out.size; omega
      obtain ⟨q, tx, hq, htx, htl', hcall⟩ := HALL.out _ hlt w1 HB1.out
      have hfe := HEE.out tx htx
      have zE : (bs tx).size ≤ 100000 := by rw [bs_size]; exact htl'
      have HC : Hid _ := hcall
      have HFE : Hid _ := hfe
      clear hcall hfe htx HEE hb1
      go_wp2_with fail
      refine Calls.mono HC.out ?_
      rintro _ w2 ⟨rfl, hb2⟩
      have HB2 : Hid _ := HB1.out.trans (hb2.mono HB1.out.size)
      clear hb2 HC
      go_wp2
      go_roundw
      case rel => exact ⟨j + 1, by omega, by go_num, by rw [← HFE.out], HB2.out⟩
      case measure => simp [intOf]; omega
    ·have HEE : Hid _ := EP.out hcd
     clear EN EP HNX HL HO HZ
     obtain ⟨q, tx, hq, htx, htl', hcall⟩ := HALL.out j hlt wr HB.out
     have hfe := HEE.out tx htx
     have zE : (bs tx).size ≤ 100000 := by rw [bs_size]; exact htl'
     have HC : Hid _ := hcall
     have HFE : Hid _ := hfe
     have hnl : ¬ (bl = true ∧ j = 0) := fun h => hcd (Or.inl h)
     have hno : ¬ (bo = true ∧ j = 1) := fun h => hcd (Or.inr h)
     clear hcall hfe htx HEE hcd
     have qj0 : j ≠ 0 → ((j : Int) == 0) = false := fun h => by rw [beq_eq_false_iff_ne]; omega
     have qj1 : j ≠ 1 → ((j : Int) == 1) = false := fun h => by rw [beq_eq_false_iff_ne]; omega
     cases bl <;> cases bo <;> first | exact absurd ⟨rfl, rfl⟩ hLO | skip
     all_goals
      clear hLO
      first
      | (have hj0 : j ≠ 0 := fun h => hnl ⟨rfl, h⟩
         have q6 := qj0 hj0)
      | (have hj1 : j ≠ 1 := fun h => hno ⟨rfl, h⟩
         have q6 := qj1 hj1)
      | skip
      clear hnl hno qj0 qj1
      go_wp2_with fail
      refine Calls.mono HC.out ?_
      rintro _ w2 ⟨rfl, hb2⟩
      have HB2 : Hid _ := HB.out.trans (hb2.mono hsz)
      clear hb2 HC
      go_wp2
      go_roundw
      case rel => exact ⟨j + 1, by omega, by go_num, by rw [← HFE.out], HB2.out⟩
      case measure => simp [intOf]; omega
   ·have hjk : j = ks.length := by omega
    subst hjk
    clear HALL HL HO
    go_wp2_with fail
    go_ret
    refine ⟨?_, HB.out⟩
    rw [← HFIN.out, ← bs_app]; rfl
theorem Vl.txt_len (a b : Vl) : (Vl.p a b).txt.length = a.txt.length + b.txt.length + 3 := by simp only [Vl.txt, List.length_cons, List.length_append, List.length_nil]; omega
theorem Vl.has_len : ∀ {v : Vl} {T : Ty}, v.has T → v.txt.length ≤ 7 * T.size + 4
 | .n k, .n, h => by
  simp only [Vl.has] at h
  simp only [Vl.txt, Ty.size]
  rw [decDigits]; split
  ·simp
  ·rw [decDigits]; split
   ·simp
   ·rw [decDigits]; split
    ·simp
    ·rw [decDigits]; split
     ·simp
     ·omega
 | .p a b, .p _ x y, h => by
  simp only [Vl.has] at h
  have h1 := Vl.has_len h.1
  have h2 := Vl.has_len h.2
  rw [Vl.txt_len]
  simp only [Ty.size]; omega
 | .n _, .p _ _ _, h => by simp [Vl.has] at h
 | .p _ _, .n, h => by simp [Vl.has] at h
end Go.Proofs.YtpicaknklgccoaaGreatDoor
namespace Go.Proofs.YtpicaknklgccoaaGreatDoor
open Go.Lib (decDigits)
def EnvHas (env : VEnv) (G : TEnv) : Prop := ∀ s T, look G s = some T → (lookV env s).has T
theorem EnvHas.snoc {env : VEnv} {G : TEnv} {nm : List UInt8} {v : Vl} {T : Ty} (h : EnvHas env G) (hv : v.has T) : EnvHas (env ++ [(nm, v)]) (G ++ [(nm, T)]) := by
 intro s U hs
 rw [look_snoc] at hs
 rw [lookV_snoc]
 by_cases e : nm = s
 ·rw [if_pos (by simpa using e)] at hs; rw [if_pos e]; cases hs; exact hv
 ·rw [if_neg (by simpa using e)] at hs; rw [if_neg e]; exact h s U hs
def Res (T : Ty) (st : ESt) (r : Vl × ESt) : Prop := (r.2.e = 0 → st.e = 0 ∧ r.1.has T) ∧ (r.2.e ≠ 0 → r.1 = .n 0)
theorem begun_res {fuel : Nat} {st : ESt} {T : Ty} {f : ESt → Vl × ESt} (h : ∀ st' : ESt, st'.e = 0 → st.e = 0 → Res T st' (f st')) : Res T st (begun fuel st f) := by
 unfold begun
 split
 ·rename_i he; exact ⟨fun e => absurd e he, fun _ => rfl⟩
 ·rename_i he
  have h0 : st.e = 0 := by simpa using he
  split
  ·exact ⟨fun e => by simp at e, fun _ => rfl⟩
  ·have := h { st with steps := st.steps + 1 } h0 h0
   exact ⟨fun e => ⟨h0, (this.1 e).2⟩, this.2⟩
theorem turns_res {T : Ty} {f : Vl → ESt → Vl × ESt} (hf : ∀ v st, (st.e = 0 → v.has T) → Res T st (f v st)) : ∀ (k : Nat) (v : Vl) (st : ESt), (st.e = 0 → v.has T) → (st.e ≠ 0 → v = .n 0) → Res T st (turns f k v st)
 | 0, v, st, h1, h2 => ⟨fun e => ⟨e, h1 e⟩, h2⟩
 | k + 1, v, st, h1, h2 => by
  unfold turns
  split
  ·rename_i he; exact ⟨fun e => absurd e he, h2⟩
  ·rename_i he
   have h0 : st.e = 0 := by simpa using he
   have hx := hf v st h1
   have := turns_res hf k (f v st).1 (f v st).2 (fun e => (hx.1 e).2) hx.2
   exact ⟨fun e => ⟨h0, (this.1 e).2⟩, this.2⟩
theorem has_num {v : Vl} (h : v.has .n) : ∃ k, v = .n k ∧ k ≤ 9999 := by
 cases v with
 | n k => exact ⟨k, rfl, h⟩
 | p a b => simp [Vl.has] at h
theorem NoNew.kid {p : Nat} {k : Kw} {nm rg : List UInt8} {kids : List PT} (h : NoNew (.node p k nm rg kids)) : ∀ x ∈ kids, NoNew x := by cases h with | node _ h => exact h
theorem NoNew.kw {p : Nat} {k : Kw} {nm rg : List UInt8} {kids : List PT} (h : NoNew (.node p k nm rg kids)) : k ≠ .new := by cases h with | node h _ => exact h
def partsV (fuel : Nat) (k : Kw) (kids : List PT) (env : VEnv) (st : ESt) : Vl × ESt :=
 if (evKids fuel kids env st).2.e ≠ 0 then (.n 0, (evKids fuel kids env st).2) else madeV k (evKids fuel kids env st).1 (evKids fuel kids env st).2
theorem partsV1 (fuel : Nat) (k : Kw) (x : PT) (env : VEnv) (st : ESt) : partsV fuel k [x] env st = if (ev fuel x env st).2.e ≠ 0 then (.n 0, (ev fuel x env st).2) else madeV k [(ev fuel x env st).1] (ev fuel x env st).2 := by
 unfold partsV; simp only [evKids]; rfl
theorem partsV2 (fuel : Nat) (k : Kw) (x y : PT) (env : VEnv) (st : ESt) : partsV fuel k [x, y] env st = if (ev fuel y env (ev fuel x env st).2).2.e ≠ 0 then (.n 0, (ev fuel y env (ev fuel x env st).2).2) else madeV k [(ev fuel x env st).1, (ev fuel y env (ev fuel x env st).2).1] (ev fuel y env (ev fuel x env st).2).2 := by
 unfold partsV; simp only [evKids]; rfl
theorem ev_parts (fuel p : Nat) (k : Kw) (nm rg : List UInt8) (kids : List PT) (env : VEnv) (st : ESt) (h1 : k ≠ .let_) (h2 : k ≠ .if_) (h3 : k ≠ .loop) : ev fuel (.node p k nm rg kids) env st = begun fuel st (fun st => partsV fuel k kids env st) := by
 conv => lhs; unfold ev
 simp only [if_neg h1, if_neg h2, if_neg h3]
 rfl
theorem ev_res (fuel : Nat) {G : TEnv} {t : PT} {T : Ty} (h : WT G t T) : ∀ (env : VEnv) (st : ESt), t.tame → NoNew t → (st.e = 0 → EnvHas env G) → Res T st (ev fuel t env st) := by
 induction h with
 | num =>
  intro env st ht hn he
  simp only [PT.tame] at ht
  unfold ev
  exact begun_res (fun st' h0 _ => ⟨fun _ => ⟨h0, by simp only [Vl.has]; omega⟩, fun e => absurd h0 e⟩)
 | name hl =>
  intro env st ht hn he
  unfold ev
  exact begun_res (fun st' h0 hs => ⟨fun _ => ⟨h0, he hs _ _ hl⟩, fun e => absurd h0 e⟩)
 | @let_ G p nm rg a b A B ha hb iha ihb =>
  intro env st ht hn he
  simp only [PT.tame, tameL] at ht
  unfold ev
  refine begun_res (fun st' h0 hs => ?_)
  simp only [if_pos, evLet]
  have x := iha env st' ht.2.1 (hn.kid _ (by simp)) (fun _ => he hs)
  have y := ihb (env ++ [(nm, (ev fuel a env st').1)]) (ev fuel a env st').2 ht.2.2.1 (hn.kid _ (by simp)) (fun e => (he (by have := (x.1 e).1; exact hs)).snoc (x.1 e).2)
  exact ⟨fun e => ⟨h0, (y.1 e).2⟩, y.2⟩
 | @pair G p nm rg a b A B ha hb hsz iha ihb =>
  intro env st ht hn he
  simp only [PT.tame, tameL] at ht
  rw [ev_parts _ _ _ _ _ _ _ _ (by decide) (by decide) (by decide)]
  refine begun_res (fun st' h0 hs => ?_)
  have x := iha env st' ht.2.1 (hn.kid _ (by simp)) (fun _ => he hs)
  have y := ihb env (ev fuel a env st').2 ht.2.2.1 (hn.kid _ (by simp)) (fun _ => he hs)
  rw [partsV2]
  split
  ·rename_i e1; exact ⟨fun e => absurd e e1, fun _ => rfl⟩
  ·rename_i e1
   have e0 : (ev fuel b env (ev fuel a env st').2).2.e = 0 := by simpa using e1
   have y0 := y.1 e0
   refine ⟨fun _ => ⟨h0, ?_⟩, fun e => absurd e0 e⟩
   simp only [madeV, Vl.has]
   exact ⟨(x.1 y0.1).2, y0.2⟩
 | @fst G p nm rg a A B ha iha =>
  intro env st ht hn he
  simp only [PT.tame, tameL] at ht
  rw [ev_parts _ _ _ _ _ _ _ _ (by decide) (by decide) (by decide)]
  refine begun_res (fun st' h0 hs => ?_)
  have x := iha env st' ht.2.1 (hn.kid _ (by simp)) (fun _ => he hs)
  rw [partsV1]
  split
  ·rename_i e1; exact ⟨fun e => absurd e e1, fun _ => rfl⟩
  ·rename_i e1
   have e0 : (ev fuel a env st').2.e = 0 := by simpa using e1
   have x0 := (x.1 e0).2
   refine ⟨fun _ => ⟨h0, ?_⟩, fun e => absurd e0 e⟩
   simp only [madeV]
   revert x0
   generalize (ev fuel a env st').1 = v
   intro x0
   cases v with
   | n k => simp [Vl.has] at x0
   | p u v => simp only [Vl.has] at x0; exact x0.1
 | @snd G p nm rg a A B ha iha =>
  intro env st ht hn he
  simp only [PT.tame, tameL] at ht
  rw [ev_parts _ _ _ _ _ _ _ _ (by decide) (by decide) (by decide)]
  refine begun_res (fun st' h0 hs => ?_)
  have x := iha env st' ht.2.1 (hn.kid _ (by simp)) (fun _ => he hs)
  rw [partsV1]
  split
  ·rename_i e1; exact ⟨fun e => absurd e e1, fun _ => rfl⟩
  ·rename_i e1
   have e0 : (ev fuel a env st').2.e = 0 := by simpa using e1
   have x0 := (x.1 e0).2
   refine ⟨fun _ => ⟨h0, ?_⟩, fun e => absurd e0 e⟩
   simp only [madeV]
   revert x0
   generalize (ev fuel a env st').1 = v
   intro x0
   cases v with
   | n k => simp [Vl.has] at x0
   | p u v => simp only [Vl.has] at x0; exact x0.2
 | @if_ G p nm rg a b c T ha hb hc iha ihb ihc =>
  intro env st ht hn he
  simp only [PT.tame, tameL] at ht
  unfold ev
  refine begun_res (fun st' h0 hs => ?_)
  simp only [reduceCtorEq, if_false, if_true, evIf]
  have x := iha env st' ht.2.1 (hn.kid _ (by simp)) (fun _ => he hs)
  split
  ·have y := ihb env (ev fuel a env st').2 ht.2.2.1 (hn.kid _ (by simp)) (fun _ => he hs)
   exact ⟨fun e => ⟨h0, (y.1 e).2⟩, y.2⟩
  ·have y := ihc env (ev fuel a env st').2 ht.2.2.2.1 (hn.kid _ (by simp)) (fun _ => he hs)
   exact ⟨fun e => ⟨h0, (y.1 e).2⟩, y.2⟩
 | @two G p k nm rg a b hk ha hb iha ihb =>
  intro env st ht hn he
  simp only [PT.tame, tameL] at ht
  have k1 : k ≠ .let_ := by rcases hk with rfl | rfl | rfl <;> decide
  have k2 : k ≠ .if_ := by rcases hk with rfl | rfl | rfl <;> decide
  have k3 : k ≠ .loop := by rcases hk with rfl | rfl | rfl <;> decide
  rw [ev_parts _ _ _ _ _ _ _ _ k1 k2 k3]
  refine begun_res (fun st' h0 hs => ?_)
  rw [partsV2]
  split
  ·rename_i e1; exact ⟨fun e => absurd e e1, fun _ => rfl⟩
  ·rename_i e1
   have e0 : (ev fuel b env (ev fuel a env st').2).2.e = 0 := by simpa using e1
   rcases hk with rfl | rfl | rfl
   all_goals
    refine ⟨fun _ => ⟨h0, ?_⟩, fun e => absurd e0 e⟩
    simp only [madeV, Vl.has]
    first | omega | (split <;> omega)
 | @loop G p nm rg a b c T ha hb hc iha ihb ihc =>
  intro env st ht hn he
  simp only [PT.tame, tameL] at ht
  unfold ev
  refine begun_res (fun st' h0 hs => ?_)
  simp only [reduceCtorEq, if_false, if_true, evLoop]
  have y := ihb env (ev fuel a env st').2 ht.2.2.1 (hn.kid _ (by simp)) (fun _ => he hs)
  have z := turns_res (f := fun v st => ev fuel c (env ++ [(nm, v)]) st) (fun v st hv => ihc (env ++ [(nm, v)]) st ht.2.2.2.1 (hn.kid _ (by simp)) (fun e => (he hs).snoc (hv e))) (ev fuel a env st').1.num (ev fuel b env (ev fuel a env st').2).1 (ev fuel b env (ev fuel a env st').2).2 (fun e => (y.1 e).2) y.2
  exact ⟨fun e => ⟨h0, (z.1 e).2⟩, z.2⟩
 | new ha iha =>
  intro env st ht hn he
  exact absurd rfl hn.kw
def Mono (fuel : Nat) (st st' : ESt) : Prop := st.steps ≤ fuel → st'.steps ≤ fuel ∧ st'.cells + st.steps ≤ st.cells + st'.steps ∧ st.steps ≤ st'.steps
theorem Mono.refl (fuel : Nat) (st : ESt) : Mono fuel st st := fun h => ⟨h, by omega, by omega⟩
theorem Mono.trans {fuel : Nat} {a b c : ESt} (h : Mono fuel a b) (h' : Mono fuel b c) : Mono fuel a c := fun h0 => by
 have h1 := h h0
 have h2 := h' h1.1
 exact ⟨h2.1, by omega, by omega⟩
theorem begun_mono {fuel : Nat} {st : ESt} {f : ESt → Vl × ESt} (h : ∀ st' : ESt, st'.steps = st.steps + 1 → st'.cells = st.cells → st'.steps ≤ fuel → (f st').2.steps ≤ fuel ∧ (f st').2.cells + st'.steps ≤ st'.cells + (f st').2.steps + 1 ∧ st'.steps ≤ (f st').2.steps) : Mono fuel st (begun fuel st f).2 := by
 unfold begun
 split
 ·exact Mono.refl _ _
 ·split
  ·exact fun h => ⟨h, by simp, by simp⟩
  ·rename_i hne
   intro h0
   have := h { st with steps := st.steps + 1 } rfl rfl (by simp only; omega)
   simp only at this ⊢
   omega
theorem turns_mono {fuel : Nat} {f : Vl → ESt → Vl × ESt} (hf : ∀ v st, Mono fuel st (f v st).2) : ∀ (k : Nat) (v : Vl) (st : ESt), Mono fuel st (turns f k v st).2
 | 0, _, st => Mono.refl _ _
 | k + 1, v, st => by
  unfold turns
  split
  ·exact Mono.refl _ _
  ·exact (hf v st).trans (turns_mono hf k _ _)
theorem made_mono (k : Kw) (vs : List Vl) (st : ESt) : (madeV k vs st).2.steps = st.steps ∧ (madeV k vs st).2.cells ≤ st.cells + 1 := by
 unfold madeV
 split <;> simp
mutual
theorem ev_mono (fuel : Nat) : ∀ (t : PT) (env : VEnv) (st : ESt), Mono fuel st (ev fuel t env st).2
 | .num _ s, env, st => by
  unfold ev; exact begun_mono (fun st' _ _ h => ⟨h, by simp, Nat.le_refl _⟩)
 | .name _ s, env, st => by
  unfold ev; exact begun_mono (fun st' _ _ h => ⟨h, by simp, Nat.le_refl _⟩)
 | .node _ k nm _ kids, env, st => by
  unfold ev
  refine begun_mono (fun st' _ _ h => ?_)
  split
  ·have := evLet_mono fuel nm kids env st' h; omega
  ·split
   ·have := evIf_mono fuel kids env st' h; omega
   ·split
    ·have := evLoop_mono fuel nm kids env st' h; omega
    ·have := evKids_mono fuel kids env st' h
     simp only
     split
     ·simp only; omega
     ·have := made_mono k (evKids fuel kids env st').1 (evKids fuel kids env st').2
      omega
theorem evKids_mono (fuel : Nat) : ∀ (ts : List PT) (env : VEnv) (st : ESt), Mono fuel st (evKids fuel ts env st).2
 | [], _, st => by simp only [evKids]; exact Mono.refl _ _
 | a :: r, env, st => by simp only [evKids]; exact (ev_mono fuel a env st).trans (evKids_mono fuel r env _)
theorem evLet_mono (fuel : Nat) (nm : List UInt8) : ∀ (ts : List PT) (env : VEnv) (st : ESt), Mono fuel st (evLet fuel nm ts env st).2
 | [a, b], env, st => by simp only [evLet]; exact (ev_mono fuel a env st).trans (ev_mono fuel b _ _)
 | [], _, st => by simp only [evLet]; exact Mono.refl _ _
 | [_], _, st => by simp only [evLet]; exact Mono.refl _ _
 | _ :: _ :: _ :: _, _, st => by simp only [evLet]; exact Mono.refl _ _
theorem evIf_mono (fuel : Nat) : ∀ (ts : List PT) (env : VEnv) (st : ESt), Mono fuel st (evIf fuel ts env st).2
 | [a, b, c], env, st => by
  simp only [evIf]
  split
  ·exact (ev_mono fuel a env st).trans (ev_mono fuel b _ _)
  ·exact (ev_mono fuel a env st).trans (ev_mono fuel c _ _)
 | [], _, st => by simp only [evIf]; exact Mono.refl _ _
 | [_], _, st => by simp only [evIf]; exact Mono.refl _ _
 | [_, _], _, st => by simp only [evIf]; exact Mono.refl _ _
 | _ :: _ :: _ :: _ :: _, _, st => by simp only [evIf]; exact Mono.refl _ _
theorem evLoop_mono (fuel : Nat) (nm : List UInt8) : ∀ (ts : List PT) (env : VEnv) (st : ESt), Mono fuel st (evLoop fuel nm ts env st).2
 | [a, b, c], env, st => by
  simp only [evLoop]
  exact ((ev_mono fuel a env st).trans (ev_mono fuel b _ _)).trans (turns_mono (fun v st => ev_mono fuel c _ st) _ _ _)
 | [], _, st => by simp only [evLoop]; exact Mono.refl _ _
 | [_], _, st => by simp only [evLoop]; exact Mono.refl _ _
 | [_, _], _, st => by simp only [evLoop]; exact Mono.refl _ _
 | _ :: _ :: _ :: _ :: _, _, st => by simp only [evLoop]; exact Mono.refl _ _
end
end Go.Proofs.YtpicaknklgccoaaGreatDoor
namespace Go.Proofs.YtpicaknklgccoaaGreatDoor
open Go.RowKit
open Go.Lib (decDigits)
theorem regT_if (k : Kw) (rg : List UInt8) : regT (if k = .pair then rg else []) = if k = .pair then regT rg else [] := by split <;> rfl
theorem ktext_any (rg : List UInt8) : ∀ {vs : List Nat} {x : KE} {t : Nat}, KT vs x t → vs.length ≤ 101 → KText rg x := by
 intro vs x t h
 induction h with
 | num h => intro _; exact text_num rg _ (by omega)
 | var h =>
  intro hl
  refine text_var rg _ ?_
  have := (List.getElem?_eq_some_iff.1 h).1
  omega
 | let_ _ hl _ _ ha hb =>
  intro _
  refine text_node rg _ .let_ _ [_, _] (by decide) (by omega) ?_ (fun w p h => knode2 h) (by simp) ?_
  ·simp only [KE.pt, PT.tidy, tidyL, regT_if, join_bind, List.map_cons, List.map_nil]
  ·intro y hy
   simp only [List.mem_cons, List.not_mem_nil, or_false] at hy
   rcases hy with rfl | rfl
   ·exact ha (by omega)
   ·exact hb (by simp; omega)
 | if_ _ _ _ ha hb hc =>
  intro hl
  refine text_node rg _ .if_ 0 [_, _, _] (by decide) (by omega) ?_ (fun w p h => knode3 h) (by simp) ?_
  ·simp only [KE.pt, PT.tidy, tidyL, join_bind, List.map_cons, List.map_nil]
   rfl
  ·intro y hy
   simp only [List.mem_cons, List.not_mem_nil, or_false] at hy
   rcases hy with rfl | rfl | rfl
   ·exact ha hl
   ·exact hb hl
   ·exact hc hl
 | loop hl _ _ _ ha hb hc =>
  intro _
  refine text_node rg _ .loop _ [_, _, _] (by decide) (by omega) ?_ (fun w p h => knode3 h) (by simp) ?_
  ·simp only [KE.pt, PT.tidy, tidyL, join_bind, List.map_cons, List.map_nil]
   rfl
  ·intro y hy
   simp only [List.mem_cons, List.not_mem_nil, or_false] at hy
   rcases hy with rfl | rfl | rfl
   ·exact ha (by omega)
   ·exact hb (by omega)
   ·exact hc (by simp; omega)
 | pair _ _ _ _ ha hb =>
  intro hl
  refine text_node rg _ .pair 0 [_, _] (by decide) (by omega) ?_ (fun w p h => knode2 h) (by simp) ?_
  ·simp only [KE.pt, PT.tidy, tidyL, join_bind, List.map_cons, List.map_nil, if_true]
  ·intro y hy
   simp only [List.mem_cons, List.not_mem_nil, or_false] at hy
   rcases hy with rfl | rfl
   ·exact ha hl
   ·exact hb hl
 | fst _ _ _ ha =>
  intro hl
  refine text_node rg _ .fst 0 [_] (by decide) (by omega) ?_ (fun w p h => knode1 h) (by simp) ?_
  ·simp only [KE.pt, PT.tidy, tidyL, List.map_cons, List.map_nil, ← join_bind]
   rfl
  ·intro y hy
   simp only [List.mem_cons, List.not_mem_nil, or_false] at hy
   subst hy
   exact ha hl
 | snd _ _ _ ha =>
  intro hl
  refine text_node rg _ .snd 0 [_] (by decide) (by omega) ?_ (fun w p h => knode1 h) (by simp) ?_
  ·simp only [KE.pt, PT.tidy, tidyL, List.map_cons, List.map_nil, ← join_bind]
   rfl
  ·intro y hy
   simp only [List.mem_cons, List.not_mem_nil, or_false] at hy
   subst hy
   exact ha hl
 | two hk _ _ ha hb =>
  intro hl
  refine text_node rg _ _ 0 [_, _] (by rcases hk with rfl | rfl | rfl <;> decide) (by omega) ?_ (fun w p h => knode2 h) (by simp) ?_
  ·simp only [KE.pt, PT.tidy, tidyL, regT_if, join_bind, List.map_cons, List.map_nil]
  ·intro y hy
   simp only [List.mem_cons, List.not_mem_nil, or_false] at hy
   rcases hy with rfl | rfl
   ·exact ha hl
   ·exact hb hl
def kvV (n : Nat) (a b : Value) : Array Value := #[.int .i64 n, a, b]
def KVal (w : World) : Vl → Nat → Prop
 | .n k, p => w.heap[p]? = some (.cells (kvV k (.pointer none) (.pointer none)) 141 (0, 0))
 | .p a b, p => ∃ pa pb : Nat, w.heap[p]? = some (.cells (kvV 0 (.pointer (some ⟨pa, 0, none⟩)) (.pointer (some ⟨pb, 0, none⟩))) 141 (0, 0)) ∧ KVal w a pa ∧ KVal w b pb
theorem KVal.keep {w w' : World} (h : ∀ (k : Nat) (arr : Array Value), w.heap[k]? = some (.cells arr 141 (0, 0)) → w'.heap[k]? = some (.cells arr 141 (0, 0))) : ∀ {v : Vl} {p : Nat}, KVal w v p → KVal w' v p
 | .n _, _, hx => h _ _ hx
 | .p _ _, _, ⟨pa, pb, h1, h2, h3⟩ => ⟨pa, pb, h _ _ h1, KVal.keep h h2, KVal.keep h h3⟩
theorem KVal.below {w w' : World} {v : Vl} {p : Nat} (h : KVal w v p) (hb : Below w.heap.size w w') : KVal w' v p := h.keep (fun k _ hk => (hb.block k (blk_lt hk)).trans hk)
theorem KVal.num {w : World} {v : Vl} {p : Nat} (h : KVal w v p) : p < w.heap.size ∧ w.cell? ⟨p, 0, none⟩ = some (.int .i64 v.num) := by
 cases v with
 | n k => have h' : w.heap[p]? = some (.cells (kvV k (.pointer none) (.pointer none)) 141 (0, 0)) := h; exact ⟨blk_lt h', by rw [blk_cell h']; rfl⟩
 | p a b => obtain ⟨pa, pb, h1, _, _⟩ := h; exact ⟨blk_lt h1, by rw [blk_cell h1]; rfl⟩
def ptrsV (l : List Nat) : List Value := l.map (fun (k : Nat) => Value.pointer (some ⟨k, 0, none⟩))
theorem ptrsV_len (l : List Nat) : (ptrsV l).length = l.length := by simp [ptrsV]
theorem ptrsV_snoc (l : List Nat) (v : Nat) : ptrsV (l ++ [v]) = ptrsV l ++ [.pointer (some ⟨v, 0, none⟩)] := by simp [ptrsV]
def wkCells (nv : Value) (fuel : Nat) (st : ESt) : Array Value := #[nv, .int .i64 fuel, .int .i64 st.steps, .int .i64 st.cells, .bool (decide (st.e ≠ 0))]
structure WkIn (w0 w : World) (yb : Nat) (vals : List Vl) (ps : List Nat) (fuel : Nat) (st : ESt) (nv : Value) : Prop where
 ob : ObIn w0 w yb (wkCells nv fuel st) 103 nv 104 (ptrsV ps)
 len : ps.length = vals.length
 v : ∀ (i : Nat) (v : Vl) (p : Nat), vals[i]? = some v → ps[i]? = some p → KVal w v p
theorem KVal.fr {w0 w w' : World} {yb : Nat} {cs : Array Value} {xs : List Value} {nv nv' : Value} {v : Vl} {p : Nat} (h : KVal w v p) (hm : ObIn w0 w yb cs 103 nv 104 xs) (hf : FrO w w' yb nv nv') : KVal w' v p :=
 h.keep (fun k arr hk => hm.other hf (by decide) (by decide) hk)
theorem WkIn.grow {w0 w w' : World} {yb : Nat} {vals : List Vl} {ps : List Nat} {fuel : Nat} {st : ESt} {nv : Value} (h : WkIn w0 w yb vals ps fuel st nv) (hb : Below w.heap.size w w') : WkIn w0 w' yb vals ps fuel st nv :=
 ⟨h.ob.grow hb, h.len, fun i v p h1 h2 => (h.v i v p h1 h2).below hb⟩
theorem WkIn.set {w0 w : World} {yb : Nat} {vals : List Vl} {ps : List Nat} {fuel : Nat} {st st' : ESt} {nv : Value} (h : WkIn w0 w yb vals ps fuel st nv) (o : Nat) (x : Value) (hx : (wkCells nv fuel st).setIfInBounds o x = wkCells nv fuel st') : WkIn w0 (w.setCell ⟨yb, o, none⟩ x) yb vals ps fuel st' nv :=
 ⟨h.ob.set o x hx, h.len, fun i v p h1 h2 => (h.v i v p h1 h2).fr h.ob (FrO.set1 w yb nv o x)⟩
set_option maxRecDepth 100000 in
set_option maxHeartbeats 1000000 in
theorem ktold_any : ∀ (v : Vl) (T : Ty) (p : Nat) (w : World), v.has T → T.size ≤ 63 → KVal w v p → (∀ W, Below w.heap.size w W → ItoaOk W) →
  Calls Tryz.prog 52 #[.pointer (some ⟨p, 0, none⟩)] w fun e w' => e = .returned (.string (bs v.txt)) ∧ Below w.heap.size w w'
 | .n k, T, p, w, hv, _, hk, hit => by
  have hk9 : k ≤ 9999 := by
   cases T with
   | n => exact hv
   | p _ _ _ => exact hv.elim
  have hk' : w.heap[p]? = some (.cells (kvV k (.pointer none) (.pointer none)) 141 (0, 0)) := hk
  have hp := blk_lt hk'
  have x0 : w.cell? ⟨p, 0, none⟩ = some (.int .i64 k) := by rw [blk_cell hk']; rfl
  have x1 : w.cell? ⟨p, 1, none⟩ = some (.pointer none) := by rw [blk_cell hk']; rfl
  have HI : Hid _ := hit w (Below.refl _ _) k w hk9 (Below.refl _ _)
  simp only [Vl.txt]
  clear hk hk' hit hv
  go_enter Tryz.func52, Tryz.ntmps52
  go_wp2_with fail
  refine Calls.mono HI.out ?_
  rintro _ w2 ⟨rfl, hb⟩
  go_wp2
  go_ret
  exact ⟨rfl, hb⟩
 | .p a b, T, p, w, hv, hT, hk, hit => by
  obtain ⟨r, A, B, rfl, ha, hb⟩ : ∃ r A B, T = .p r A B ∧ a.has A ∧ b.has B := by
   cases T with
   | n => exact hv.elim
   | p r A B => exact ⟨r, A, B, rfl, hv.1, hv.2⟩
  simp only [Ty.size] at hT
  obtain ⟨pa, pb, h1, h2, h3⟩ := hk
  have hp := blk_lt h1
  have x1 : w.cell? ⟨p, 1, none⟩ = some (.pointer (some ⟨pa, 0, none⟩)) := by rw [blk_cell h1]; rfl
  have x2 : w.cell? ⟨p, 2, none⟩ = some (.pointer (some ⟨pb, 0, none⟩)) := by rw [blk_cell h1]; rfl
  have HA : Hid _ := ktold_any a A pa w ha (by omega) h2 hit
  have HB : Hid _ := fun W hW => ktold_any b B pb W hb (by omega) (h3.below hW) (fun W' hW' => hit W' (hW.trans (hW'.mono hW.size)))
  have la := Vl.has_len ha
  have lb := Vl.has_len hb
  have z1 : (ByteArray.mk #[91]).size = 1 := rfl
  have z2 : (ByteArray.mk #[32]).size = 1 := rfl
  have z3 : (ByteArray.mk #[93]).size = 1 := rfl
  have zA : (bs a.txt).size ≤ 1000 := by rw [bs_size]; omega
  have zB : (bs b.txt).size ≤ 1000 := by rw [bs_size]; omega
  have zC : (ByteArray.mk #[91] ++ bs a.txt).size ≤ 1001 := by rw [ByteArray.size_append]; omega
  have zD : (ByteArray.mk #[91] ++ bs a.txt ++ ByteArray.mk #[32]).size ≤ 1002 := by rw [ByteArray.size_append]; omega
  have zE : (ByteArray.mk #[91] ++ bs a.txt ++ ByteArray.mk #[32] ++ bs b.txt).size ≤ 2002 := by rw [ByteArray.size_append]; omega
  have hfin : ByteArray.mk #[91] ++ bs a.txt ++ ByteArray.mk #[32] ++ bs b.txt ++ ByteArray.mk #[93] = bs (Vl.txt (.p a b)) := by
   rw [show ByteArray.mk #[91] = bs [91] from rfl, show ByteArray.mk #[32] = bs [32] from rfl, show ByteArray.mk #[93] = bs [93] from rfl, bs_app, bs_app, bs_app, bs_app]
   simp [Vl.txt]
  have HFIN : Hid _ := hfin
  clear hfin h1 h2 h3 hit hv ha hb la lb
  go_enter Tryz.func52, Tryz.ntmps52
  go_wp2_with fail
  refine Calls.mono HA.out ?_
  rintro _ w2 ⟨rfl, hb2⟩
  have y2 : w2.cell? ⟨p, 2, none⟩ = some (.pointer (some ⟨pb, 0, none⟩)) := (hb2.cell (p := ⟨p, 2, none⟩) hp).trans x2
  have hp2 : p < w2.heap.size := by have := hb2.size; omega
  have HB2 : Hid _ := hb2
  clear hb2 HA
  go_wp2_with fail
  refine Calls.mono (HB.out w2 HB2.out) ?_
  rintro _ w3 ⟨rfl, hb3⟩
  have HB3 : Hid _ := HB2.out.trans (hb3.mono HB2.out.size)
  clear hb3 HB
  go_wp2
  go_ret
  exact ⟨by rw [← HFIN.out]; rfl, HB3.out⟩
end Go.Proofs.YtpicaknklgccoaaGreatDoor
