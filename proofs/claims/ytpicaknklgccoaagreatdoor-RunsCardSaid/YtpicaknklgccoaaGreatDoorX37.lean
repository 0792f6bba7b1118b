import Derived.Test.YtpicaknklgccoaaGreatDoorX9
import Derived.Test.YtpicaknklgccoaaGreatDoorX10
import Derived.Test.YtpicaknklgccoaaGreatDoorX29
import Derived.Test.YtpicaknklgccoaaGreatDoorX21
import Derived.Test.YtpicaknklgccoaaGreatDoorX35
namespace Go.Proofs.YtpicaknklgccoaaGreatDoor
open Go.RowKit
open Go.Lib (decDigits)
theorem run_memT (lo hi : Int) : ∀ (l : List UInt8) (c : UInt8), c ∈ l.take (run lo hi l) → inB lo hi c = true
 | [], c, h => by simp at h
 | d :: r, c, h => by
  simp only [run] at h
  split at h
  ·rename_i hd
   rw [List.take_succ_cons, List.mem_cons] at h
   rcases h with h | h
   ·rw [h]; exact hd
   ·exact run_memT lo hi r c h
  ·simp at h
theorem dig_fold : ∀ (l : List UInt8) (a : Int), (∀ c ∈ l, inB 48 57 c = true) → 0 ≤ a →
  0 ≤ l.foldl (fun n c => if c = 35 then n else 10 * n + (c.toNat : Int) - 48) a ∧ l.foldl (fun n c => if c = 35 then n else 10 * n + (c.toNat : Int) - 48) a ≤ (a + 1) * ((10 ^ l.length : Nat) : Int) - 1
 | [], a, _, h => by simp; omega
 | c :: r, a, hd, h => by
  have hc := hd c (by simp)
  simp only [inB, Bool.and_eq_true, decide_eq_true_eq] at hc
  have h35 : c ≠ 35 := by intro e; subst e; simp at hc
  have ih := dig_fold r (10 * a + (c.toNat : Int) - 48) (fun x hx => hd x (by simp [hx])) (by omega)
  simp only [List.foldl_cons, if_neg h35, List.length_cons]
  refine ⟨ih.1, Int.le_trans ih.2 ?_⟩
  have e : ((10 ^ (r.length + 1) : Nat) : Int) = 10 * ((10 ^ r.length : Nat) : Int) := by rw [Nat.pow_succ]; omega
  rw [e]
  have hp : (0 : Int) ≤ ((10 ^ r.length : Nat) : Int) := Int.natCast_nonneg _
  have h2 : (10 * a + (c.toNat : Int) - 48 + 1) ≤ (a + 1) * 10 := by omega
  have h3 := Int.mul_le_mul_of_nonneg_right h2 hp
  rw [Int.mul_assoc] at h3
  omega
def TkTame (t : Tk) : Prop := (t.c = .num → 0 ≤ valueL t.s ∧ valueL t.s ≤ 9999) ∧ (t.c = .nam → t.s.length ≤ 9000)
theorem tok_tame (l : List UInt8) : ((tokenOf l).2 = .num → 0 ≤ valueL (l.take (tokenOf l).1) ∧ valueL (l.take (tokenOf l).1) ≤ 9999) ∧ ((tokenOf l).2 = .nam → (tokenOf l).1 ≤ 9000) := by
 unfold tokenOf
 split
 ·refine ⟨fun h => ?_, fun h => ?_⟩
  ·simp only [wordCl] at h
   split at h
   ·simp at h
   ·split at h <;> simp at h
  ·simp only [wordCl] at h
   split at h
   ·simp at h
   ·split at h
    ·simp only; omega
    ·simp at h
 ·split
  ·refine ⟨fun h => ?_, fun h => ?_⟩
   ·simp only at h
    split at h
    ·rename_i hn
     simp only [numeralB, Bool.and_eq_true, decide_eq_true_eq] at hn
     have hf := dig_fold (l.take (run 48 57 l)) 0 (fun c hc => run_memT 48 57 l c hc) (by omega)
     have hp : 10 ^ (l.take (run 48 57 l)).length ≤ 10 ^ 4 := Nat.pow_le_pow_right (by omega) hn.1.2
     unfold valueL
     simp only
     omega
    ·simp at h
   ·simp only at h
    split at h <;> simp at h
  ·split
   ·simp
   ·split
    ·refine ⟨fun h => ?_, fun h => ?_⟩ <;> (simp only at h; split at h <;> simp at h)
    ·refine ⟨fun h => ?_, fun _ => by simp⟩
     simp only at h
     split at h
     ·simp at h
     ·split at h <;> simp at h
theorem tokens_tame (l : List UInt8) : ∀ t ∈ tokens l, TkTame t := by
 intro t ht
 obtain ⟨l', _, hs, hc⟩ := toks_mem _ _ _ t ht
 have h := tok_tame l'
 unfold TkTame
 rw [hs, hc]
 exact ⟨h.1, fun e => by have := h.2 e; simp; omega⟩
mutual
theorem PE.tame {placed : Bool} : ∀ {l : List Tk} {e : PT} {r : List Tk}, PE placed l e r → (∀ t ∈ l, TkTame t) → e.tame ∧ ∀ t ∈ r, TkTame t
 | _, _, _, .num (t := t) h, ha => ⟨by simp only [PT.tame]; exact (ha t (by simp)).1 h, fun x hx => ha x (by simp [hx])⟩
 | _, _, _, .name (t := t) h, ha => ⟨by simp only [PT.tame]; exact (ha t (by simp)).2 h, fun x hx => ha x (by simp [hx])⟩
 | _, _, _, .node _ _ _ h4, ha => by
  have h := PW.tame h4 (fun x hx => ha x (by simp [hx]))
  exact ⟨by simp only [PT.tame]; exact ⟨h.1, h.2.1⟩, h.2.2⟩
theorem PW.tame {placed : Bool} : ∀ {ws : List Wt} {l : List Tk} {nm rg : List UInt8} {kids : List PT} {r : List Tk}, PW placed ws l nm rg kids r → (∀ t ∈ l, TkTame t) → nm.length ≤ 9000 ∧ tameL kids ∧ ∀ t ∈ r, TkTame t
 | _, _, _, _, _, _, .nil, ha => ⟨by simp, by simp [tameL], ha⟩
 | _, _, _, _, _, _, .close _ h1, ha => PW.tame h1 (fun x hx => ha x (by simp [hx]))
 | _, _, _, _, _, _, .name (t := t) h h1, ha => by
  have h' := PW.tame h1 (fun x hx => ha x (by simp [hx]))
  exact ⟨(ha t (by simp)).2 h, h'.2⟩
 | _, _, _, _, _, _, .region _ h1, ha => PW.tame h1 (fun x hx => ha x (by simp [hx]))
 | _, _, _, _, _, _, .e h0 h1, ha => by
  have a := PE.tame h0 ha
  have b := PW.tame h1 a.2
  exact ⟨b.1, by simp only [tameL]; exact ⟨a.1, b.2.1⟩, b.2.2⟩
end
end Go.Proofs.YtpicaknklgccoaaGreatDoor
namespace Go.Proofs.YtpicaknklgccoaaGreatDoor
open Go.RowKit
set_option maxRecDepth 100000 in
set_option maxHeartbeats 8000000 in
theorem ParsePlaced_any (s : ByteArray) (w : World) (hs : s.size ≤ 9000) : Calls Tryz.prog 87 #[.string s] w fun v w' => ParseAns s true w v w' := by
 have hpr := program_any s true (w.heap.size + 1) hs _ _ _ _ _ (tokens_len s hs) (parse0 s true w (.cells #[.slice none 0 0, .slice none 0 0] 59))
 unfold ptr psCells at hpr
 unfold ParseAns
 generalize pProg true s.size (tokens s.data.toList) = P at *
 go_enter Tryz.func87, Tryz.ntmps87
 go_wp2_with fail
 refine hpr.mono ?_
 rintro v w1 ⟨sv1, nv1, ov1, hfr, hin, hv⟩
 obtain ⟨hb, hr, hsz⟩ := hfr.toBelow
 have r0 : w1.cell? ⟨w.heap.size, 0, none⟩ = some (.slice none 0 0) := by rw [blk_cell hr]; rfl
 have r1 : w1.cell? ⟨w.heap.size, 1, none⟩ = some (.slice none 0 0) := by rw [blk_cell hr]; rfl
 have f0 := blk_free hr 0
 have f1 := blk_free hr 1
 have HB : Hid _ := hb
 rcases hv with ⟨q, hfl, rfl⟩ | ⟨hfl, rfl⟩
 ·have HFL : Hid _ := hfl
  unfold treeV
  clear hfl hfr hin hb hr hpr
  go_wp2
  refine bodyPost_ret (v := .tuple #[.agg #[.slice none 0 0, .slice none 0 0], .int .i64 q, .bool false]) (by simp [results, Tryz.results87, go_sem, r0, r1]) rfl ⟨?_, Or.inl ⟨q, HFL.out, rfl⟩⟩
  exact (HB.out.setCell (p := ⟨w.heap.size, 0, none⟩) (Nat.le_refl _) _).setCell (p := ⟨w.heap.size, 1, none⟩) (Nat.le_refl _) _
 ·have HFL : Hid _ := hfl
  obtain ⟨x6, n6, c6, e6⟩ : ∃ a n c, nv1 = .slice a n c := by
   rcases hin.nd.2 with ⟨h1, _⟩ | ⟨g, cap, cur, h1, _⟩
   ·exact ⟨_, _, _, h1⟩
   ·exact ⟨_, _, _, h1⟩
  obtain ⟨x7, n7, c7, e7⟩ : ∃ a n c, ov1 = .slice a n c := by
   rcases hin.op.2 with ⟨h1, _⟩ | ⟨g, cap, cur, h1, _⟩
   ·exact ⟨_, _, _, h1⟩
   ·exact ⟨_, _, _, h1⟩
  have hrn : ∀ k, nv1.ownBlock = some k → k ≠ w.heap.size := fun k hk => by
   rcases hfr.n k hk with e | e
   ·simp [Value.ownBlock] at e
   ·simp at e; omega
  have hro : ∀ k, ov1.ownBlock = some k → k ≠ w.heap.size := fun k hk => by
   rcases hfr.o k hk with e | e
   ·simp [Value.ownBlock] at e
   ·simp at e; omega
  subst e6
  subst e7
  have HT : Hid (TreeIn ((w1.setCell ⟨w.heap.size, 0, none⟩ (.slice x6 n6 c6)).setCell ⟨w.heap.size, 1, none⟩ (.slice x7 n7 c7)) (.slice x6 n6 c6) (.slice x7 n7 c7) P.nodes P.opened) := by
   refine ⟨owns_blk hin.nd (fun k hk => ?_), owns_blk hin.op (fun k hk => ?_)⟩
   ·rw [blk_other _ _ (by simpa using hrn k hk), blk_other _ _ (by simpa using hrn k hk)]
   ·rw [blk_other _ _ (by simpa using hro k hk), blk_other _ _ (by simpa using hro k hk)]
  unfold treeV
  clear hfl hfr hin hb hr hpr hrn hro
  go_wp2
  refine bodyPost_ret (v := .tuple #[.agg #[.slice x6 n6 c6, .slice x7 n7 c7], .int .i64 0, .bool true]) (by simp [results, Tryz.results87, go_sem, r0, r1]) rfl ⟨?_, Or.inr ⟨HFL.out, _, _, rfl, HT.out⟩⟩
  exact (HB.out.setCell (p := ⟨w.heap.size, 0, none⟩) (Nat.le_refl _) _).setCell (p := ⟨w.heap.size, 1, none⟩) (Nat.le_refl _) _
set_option maxRecDepth 100000 in
set_option maxHeartbeats 4000000 in
theorem parsePlaced_long (s : ByteArray) (w : World) (hs : 9000 < s.size) (hm : s.size ≤ maxLen) : Calls Tryz.prog 54 #[.string s] w fun v w' => v = .returned (.tuple #[treeV (.slice none 0 0) (.slice none 0 0), .int .i64 1, .int .i64 0]) ∧ Below w.heap.size w w' := by
 unfold maxLen at hm
 unfold treeV
 go_enter Tryz.func54, Tryz.ntmps54
 go_wp2
 refine bodyPost_ret (v := .tuple #[.agg #[.slice none 0 0, .slice none 0 0], .int .i64 1, .int .i64 0]) (by simp [results, Tryz.results54, go_sem]) rfl ⟨rfl, (Below.refl _ _).alloc (Nat.le_refl _) _⟩
set_option maxRecDepth 100000 in
set_option maxHeartbeats 4000000 in
theorem parsePlaced_form (s : ByteArray) (w : World) (hs : s.size ≤ 9000) (q : Nat) (hq : formOf true s.data.toList = some q) : Calls Tryz.prog 54 #[.string s] w fun v w' => v = .returned (.tuple #[treeV (.slice none 0 0) (.slice none 0 0), .int .i64 2, .int .i64 q]) ∧ Below w.heap.size w w' := by
 have hfl : (pProg true s.size (tokens s.data.toList)).fl = some q := by
  unfold formOf at hq
  rw [size_list] at hq
  exact prog_no hq
 have hpp := fun w => ParsePlaced_any s w (by omega)
 have HFL : Hid _ := hfl
 clear hfl hq
 unfold treeV
 go_enter Tryz.func54, Tryz.ntmps54
 go_wp2_with fail
 refine (hpp _).mono ?_
 rintro v w1 ⟨hb, hv⟩
 have hr := kept1 hb
 have r0 : w1.cell? ⟨w.heap.size, 0, none⟩ = some (.slice none 0 0) := by rw [blk_cell hr]; rfl
 have r1 : w1.cell? ⟨w.heap.size, 1, none⟩ = some (.slice none 0 0) := by rw [blk_cell hr]; rfl
 have f0 := blk_free hr 0
 have f1 := blk_free hr 1
 have hlt := blk_lt hr
 have HB : Hid _ := below1 hb
 rcases hv with ⟨q', hq', rfl⟩ | ⟨hq', _⟩
 ·have e : q' = q := by rw [HFL.out] at hq'; cases hq'; rfl
  subst e
  unfold treeV
  have hW := blk_alloc (.cells #[.slice none 0 0, .slice none 0 0] 59) (blk_set (blk_set hr 0 (.slice none 0 0)) 1 (.slice none 0 0))
  have s0 : (((w1.setCell ⟨w.heap.size, 0, none⟩ (.slice none 0 0)).setCell ⟨w.heap.size, 1, none⟩ (.slice none 0 0)).alloc (.cells #[.slice none 0 0, .slice none 0 0] 59)).cell? ⟨w.heap.size, 0, none⟩ = some (.slice none 0 0) := by rw [blk_cell hW]; rfl
  have s1 : (((w1.setCell ⟨w.heap.size, 0, none⟩ (.slice none 0 0)).setCell ⟨w.heap.size, 1, none⟩ (.slice none 0 0)).alloc (.cells #[.slice none 0 0, .slice none 0 0] 59)).cell? ⟨w.heap.size, 1, none⟩ = some (.slice none 0 0) := by rw [blk_cell hW]; rfl
  have S0 : Hid _ := s0
  have S1 : Hid _ := s1
  clear hq' hb hr hpp HFL hW s0 s1
  go_wp2
  refine bodyPost_ret (v := .tuple #[.agg #[.slice none 0 0, .slice none 0 0], .int .i64 2, .int .i64 q']) (by have s0 := S0.out; have s1 := S1.out; simp [results, Tryz.results54, go_sem, s0, s1]) rfl ⟨rfl, ?_⟩
  exact ((HB.out.setCell (p := ⟨w.heap.size, 0, none⟩) (Nat.le_refl _) _).setCell (p := ⟨w.heap.size, 1, none⟩) (Nat.le_refl _) _).alloc (by have := HB.out.size; simp [World.setCell]; omega) _
 ·rw [HFL.out] at hq'; cases hq'
end Go.Proofs.YtpicaknklgccoaaGreatDoor
namespace Go.Proofs.YtpicaknklgccoaaGreatDoor
def TEqS (a b : TSt) : Prop := a.e = b.e ∧ a.at_ = b.at_
def TEq (x y : Ty × TSt) : Prop := x.1.bare = y.1.bare ∧ TEqS x.2 y.2
theorem errS_eq {a b : TSt} (h : TEqS a b) (e p : Nat) : TEqS (errS a e p) (errS b e p) := by
 unfold errS
 rw [h.1]
 split
 ·exact ⟨rfl, rfl⟩
 ·exact h
theorem size_eqB {a b : Ty} (h : a.bare = b.bare) : a.size = b.size := by rw [← bare_sizeE a, h, bare_sizeE]
theorem bare_nB {a b : Ty} (h : a.bare = b.bare) : a = .n ↔ b = .n := by cases a <;> cases b <;> simp [Ty.bare] at h ⊢
theorem fin_eq {x y : Ty × TSt} (h : TEq x y) (id id' p : Nat) : TEq (fin id p x) (fin id' p y) := by
 have hs := size_eqB h.1
 unfold fin
 refine ⟨h.1, ?_⟩
 simp only [TEqS]
 rw [h.2.1, hs]
 split
 ·exact errS_eq h.2 6 p
 ·exact h.2
theorem err_eq {st st' : TSt} (hs : TEqS st st') (p : Nat) : TEq (.n, errS st 5 p) (.n, errS st' 5 p) := ⟨rfl, errS_eq hs 5 p⟩
theorem ite_eqB {a b c a' b' c' : Ty} {st st' : TSt} {p : Nat} (hs : TEqS st st') (h1 : a.bare = a'.bare) (h2 : b.bare = b'.bare) (h3 : c.bare = c'.bare) : TEq (if a = .n ∧ b.bare = c.bare then (b, st) else (.n, errS st 5 p)) (if a' = .n ∧ b'.bare = c'.bare then (b', st') else (.n, errS st' 5 p)) := by
 by_cases hc : a = .n ∧ b.bare = c.bare
 ·rw [if_pos hc, if_pos ⟨(bare_nB h1).1 hc.1, by rw [← h2, ← h3]; exact hc.2⟩]; exact ⟨h2, hs⟩
 ·rw [if_neg hc, if_neg (fun h => hc ⟨(bare_nB h1).2 h.1, by rw [h2, h3]; exact h.2⟩)]; exact err_eq hs p
theorem two_eqB {a b a' b' : Ty} {st st' : TSt} {p : Nat} (hs : TEqS st st') (h1 : a.bare = a'.bare) (h2 : b.bare = b'.bare) : TEq (if a = .n ∧ b = .n then (.n, st) else (.n, errS st 5 p)) (if a' = .n ∧ b' = .n then (.n, st') else (.n, errS st' 5 p)) := by
 by_cases hc : a = .n ∧ b = .n
 ·rw [if_pos hc, if_pos ⟨(bare_nB h1).1 hc.1, (bare_nB h2).1 hc.2⟩]; exact ⟨rfl, hs⟩
 ·rw [if_neg hc, if_neg (fun h => hc ⟨(bare_nB h1).2 h.1, (bare_nB h2).2 h.2⟩)]; exact err_eq hs p
theorem madeT_eq (cls cls' : List Nat) (k : Kw) (p site site' : Nat) (ks ks' : List Ty) (st st' : TSt) (h : ks.map Ty.bare = ks'.map Ty.bare) (hs : TEqS st st') : TEq (madeT cls k p site ks st) (madeT cls' k p site' ks' st') := by
 have hl : ks.length = ks'.length := by have := congrArg List.length h; simpa using this
 cases ks with
 | nil =>
  cases ks' with
  | nil => cases k <;> exact err_eq hs p
  | cons a' r' => simp at hl
 | cons a r =>
  cases ks' with
  | nil => simp at hl
  | cons a' r' =>
   simp only [List.map_cons, List.cons.injEq] at h
   have ha := h.1
   have hfs : ∀ k, k = .fst ∨ k = .snd → TEq (madeT cls k p site (a :: r) st) (madeT cls' k p site' (a' :: r') st') := by
    intro k hk
    cases a with
    | n =>
     cases a' with
     | n => rcases hk with rfl | rfl <;> exact err_eq hs p
     | p _ _ _ => simp [Ty.bare] at ha
    | p r1 u v =>
     cases a' with
     | n => simp [Ty.bare] at ha
     | p r2 u' v' =>
      simp only [Ty.bare, Ty.p.injEq, true_and] at ha
      rcases hk with rfl | rfl
      ·exact ⟨ha.1, hs⟩
      ·exact ⟨ha.2, hs⟩
   cases r with
   | nil =>
    cases r' with
    | cons b' r' => simp at hl
    | nil =>
     cases k <;> first | exact hfs _ (Or.inl rfl) | exact hfs _ (Or.inr rfl) | exact err_eq hs p | exact ⟨ha, hs⟩
   | cons b r =>
    cases r' with
    | nil => simp at hl
    | cons b' r' =>
     simp only [List.map_cons, List.cons.injEq] at h
     have hb := h.2.1
     cases r with
     | nil =>
      cases r' with
      | cons c' r' => simp at hl
      | nil =>
       cases k <;> first | exact hfs _ (Or.inl rfl) | exact hfs _ (Or.inr rfl) | exact err_eq hs p | exact two_eqB hs ha hb | exact ⟨ha, hs⟩ | exact ⟨by simp only [madeT, Ty.bare, ha, hb], hs⟩
     | cons c r =>
      cases r' with
      | nil => simp at hl
      | cons c' r' =>
       simp only [List.map_cons, List.cons.injEq] at h
       have hc := h.2.2.1
       cases r with
       | nil =>
        cases r' with
        | cons d' r' => simp at hl
        | nil =>
         cases k <;> first | exact hfs _ (Or.inl rfl) | exact hfs _ (Or.inr rfl) | exact err_eq hs p | exact ite_eqB hs ha hb hc | exact ⟨ha, hs⟩
       | cons d r =>
        cases r' with
        | nil => simp at hl
        | cons d' r' => cases k <;> first | exact hfs _ (Or.inl rfl) | exact hfs _ (Or.inr rfl) | exact err_eq hs p | exact ⟨ha, hs⟩
theorem bareE_snocB {env env' : TEnv} {nm : List UInt8} {T T' : Ty} (h : bareE env = bareE env') (hT : T.bare = T'.bare) : bareE (env ++ [(nm, T)]) = bareE (env' ++ [(nm, T')]) := by rw [bareE_snoc, bareE_snoc, h, hT]
mutual
theorem tyFind_cls (cls cls' : List Nat) : ∀ (t : PT) (id id' site site' : Nat) (env env' : TEnv) (st st' : TSt), bareE env = bareE env' → TEqS st st' → TEq (tyFind cls t id site env st) (tyFind cls' t id' site' env' st')
 | .num p s, id, id', site, site', env, env', st, st', he, hs => by simp only [tyFind]; exact fin_eq (x := (.n, st)) (y := (.n, st')) ⟨rfl, hs⟩ _ _ _
 | .name p s, id, id', site, site', env, env', st, st', he, hs => by
  simp only [tyFind]
  refine fin_eq ?_ _ _ _
  have h1 := look_bare env s
  have h2 := look_bare env' s
  rw [he, h2] at h1
  cases hl : look env s with
  | none =>
   cases hl' : look env' s with
   | none => exact ⟨rfl, errS_eq hs 4 p⟩
   | some T' => rw [hl, hl'] at h1; simp at h1
  | some T =>
   cases hl' : look env' s with
   | none => rw [hl, hl'] at h1; simp at h1
   | some T' =>
    rw [hl, hl'] at h1
    simp only [Option.map_some, Option.some.injEq] at h1
    exact ⟨h1.symm, hs⟩
 | .node p k nm rg kids, id, id', site, site', env, env', st, st', he, hs => by
  simp only [tyFind]
  refine fin_eq ?_ _ _ _
  by_cases hk : k = .let_
  ·rw [if_pos hk, if_pos hk]
   exact tyLet_cls cls cls' nm kids _ _ _ _ env env' st st' he hs
  ·rw [if_neg hk, if_neg hk]
   have hx : (if k = .loop then tyLoop cls nm kids (id + 1) site env st else tyKids cls kids (id + 1) (site + if k = .pair then 1 else 0) env st).1.map Ty.bare = (if k = .loop then tyLoop cls' nm kids (id' + 1) site' env' st' else tyKids cls' kids (id' + 1) (site' + if k = .pair then 1 else 0) env' st').1.map Ty.bare ∧ TEqS (if k = .loop then tyLoop cls nm kids (id + 1) site env st else tyKids cls kids (id + 1) (site + if k = .pair then 1 else 0) env st).2 (if k = .loop then tyLoop cls' nm kids (id' + 1) site' env' st' else tyKids cls' kids (id' + 1) (site' + if k = .pair then 1 else 0) env' st').2 := by
    by_cases hl : k = .loop
    ·rw [if_pos hl, if_pos hl]; exact tyLoop_cls cls cls' nm kids _ _ _ _ env env' st st' he hs
    ·rw [if_neg hl, if_neg hl]; exact tyKids_cls cls cls' kids _ _ _ _ env env' st st' he hs
   generalize (if k = .loop then tyLoop cls nm kids (id + 1) site env st else tyKids cls kids (id + 1) (site + if k = .pair then 1 else 0) env st) = x at hx ⊢
   generalize (if k = .loop then tyLoop cls' nm kids (id' + 1) site' env' st' else tyKids cls' kids (id' + 1) (site' + if k = .pair then 1 else 0) env' st') = x' at hx ⊢
   by_cases h0 : x.2.e = 0
   ·rw [if_neg (by simpa using h0), if_neg (by rw [← hx.2.1]; simpa using h0)]
    exact madeT_eq cls cls' k p site site' x.1 x'.1 x.2 x'.2 hx.1 hx.2
   ·rw [if_pos h0, if_pos (by rw [← hx.2.1]; exact h0)]
    exact ⟨rfl, hx.2⟩
theorem tyKids_cls (cls cls' : List Nat) : ∀ (ts : List PT) (id id' site site' : Nat) (env env' : TEnv) (st st' : TSt), bareE env = bareE env' → TEqS st st' → (tyKids cls ts id site env st).1.map Ty.bare = (tyKids cls' ts id' site' env' st').1.map Ty.bare ∧ TEqS (tyKids cls ts id site env st).2 (tyKids cls' ts id' site' env' st').2
 | [], _, _, _, _, _, _, st, st', _, hs => by simp only [tyKids]; exact ⟨trivial, hs⟩
 | a :: r, id, id', site, site', env, env', st, st', he, hs => by
  simp only [tyKids]
  have h1 := tyFind_cls cls cls' a id id' site site' env env' st st' he hs
  have h2 := tyKids_cls cls cls' r (id + a.cnt) (id' + a.cnt) (site + a.prs) (site' + a.prs) env env' _ _ he h1.2
  exact ⟨by rw [List.map_cons, List.map_cons, h1.1, h2.1], h2.2⟩
theorem tyLet_cls (cls cls' : List Nat) (nm : List UInt8) : ∀ (ts : List PT) (id id' site site' : Nat) (env env' : TEnv) (st st' : TSt), bareE env = bareE env' → TEqS st st' → TEq (tyLet cls nm ts id site env st) (tyLet cls' nm ts id' site' env' st')
 | [a, b], id, id', site, site', env, env', st, st', he, hs => by
  simp only [tyLet]
  have h1 := tyFind_cls cls cls' a id id' site site' env env' st st' he hs
  exact tyFind_cls cls cls' b _ _ _ _ _ _ _ _ (bareE_snocB he h1.1) h1.2
 | [], _, _, _, _, _, _, st, st', _, hs => by simp only [tyLet]; exact ⟨rfl, hs⟩
 | [_], _, _, _, _, _, _, st, st', _, hs => by simp only [tyLet]; exact ⟨rfl, hs⟩
 | _ :: _ :: _ :: _, _, _, _, _, _, _, st, st', _, hs => by simp only [tyLet]; exact ⟨rfl, hs⟩
theorem tyLoop_cls (cls cls' : List Nat) (nm : List UInt8) : ∀ (ts : List PT) (id id' site site' : Nat) (env env' : TEnv) (st st' : TSt), bareE env = bareE env' → TEqS st st' → (tyLoop cls nm ts id site env st).1.map Ty.bare = (tyLoop cls' nm ts id' site' env' st').1.map Ty.bare ∧ TEqS (tyLoop cls nm ts id site env st).2 (tyLoop cls' nm ts id' site' env' st').2
 | [a, b, c], id, id', site, site', env, env', st, st', he, hs => by
  simp only [tyLoop]
  have h1 := tyFind_cls cls cls' a id id' site site' env env' st st' he hs
  have h2 := tyFind_cls cls cls' b (id + a.cnt) (id' + a.cnt) (site + a.prs) (site' + a.prs) env env' _ _ he h1.2
  have h3 := tyFind_cls cls cls' c (id + a.cnt + b.cnt) (id' + a.cnt + b.cnt) (site + a.prs + b.prs) (site' + a.prs + b.prs) _ _ _ _ (bareE_snocB (nm := nm) he h2.1) h2.2
  exact ⟨by simp only [List.map_cons, List.map_nil]; rw [h1.1, h2.1, h3.1], h3.2⟩
 | [], _, _, _, _, _, _, st, st', _, hs => by simp only [tyLoop]; exact ⟨trivial, hs⟩
 | [_], _, _, _, _, _, _, st, st', _, hs => by simp only [tyLoop]; exact ⟨trivial, hs⟩
 | [_, _], _, _, _, _, _, _, st, st', _, hs => by simp only [tyLoop]; exact ⟨trivial, hs⟩
 | _ :: _ :: _ :: _ :: _, _, _, _, _, _, _, st, st', _, hs => by simp only [tyLoop]; exact ⟨trivial, hs⟩
end
end Go.Proofs.YtpicaknklgccoaaGreatDoor
namespace Go.Proofs.YtpicaknklgccoaaGreatDoor
open Go.Lib (decDigits)
def RgTame (t : Tk) : Prop := t.c = .reg → 0 ≤ valueL t.s ∧ valueL t.s ≤ 999
theorem tok_rg (l : List UInt8) : (tokenOf l).2 = .reg → 0 ≤ valueL (l.take (tokenOf l).1) ∧ valueL (l.take (tokenOf l).1) ≤ 999 := by
 unfold tokenOf
 split
 ·intro h
  simp only [wordCl] at h
  split at h
  ·simp at h
  ·split at h <;> simp at h
 ·split
  ·intro h
   simp only at h
   split at h <;> simp at h
  ·split
   ·simp
   ·rename_i c r _ _
    split
    ·rename_i hc
     intro h
     simp only at h
     split at h
     ·rename_i hn
      simp only [numeralB, Bool.and_eq_true, decide_eq_true_eq] at hn
      have hf := dig_fold (r.take (run 48 57 r)) 0 (fun c hc => run_memT 48 57 r c hc) (by omega)
      have hp : 10 ^ (r.take (run 48 57 r)).length ≤ 10 ^ 3 := Nat.pow_le_pow_right (by omega) hn.1.2
      simp only [List.take_succ_cons]
      unfold valueL
      rw [List.foldl_cons, if_pos hc]
      omega
     ·simp at h
    ·intro h
     simp only at h
     split at h
     ·simp at h
     ·split at h <;> simp at h
theorem tokens_rg (l : List UInt8) : ∀ t ∈ tokens l, RgTame t := by
 intro t ht
 obtain ⟨l', _, hs, hc⟩ := toks_mem _ _ _ t ht
 unfold RgTame
 rw [hs, hc]
 exact tok_rg l'
mutual
def PT.rg3 : PT → Prop
 | .num _ _ => True
 | .name _ _ => True
 | .node _ _ _ rg kids => (0 ≤ valueL rg ∧ valueL rg ≤ 999) ∧ rg3L kids
def rg3L : List PT → Prop
 | [] => True
 | t :: r => t.rg3 ∧ rg3L r
end
mutual
theorem PE.rg3 {placed : Bool} : ∀ {l : List Tk} {e : PT} {r : List Tk}, PE placed l e r → (∀ t ∈ l, RgTame t) → e.rg3 ∧ ∀ t ∈ r, RgTame t
 | _, _, _, .num _, ha => ⟨by simp [PT.rg3], fun x hx => ha x (by simp [hx])⟩
 | _, _, _, .name _, ha => ⟨by simp [PT.rg3], fun x hx => ha x (by simp [hx])⟩
 | _, _, _, .node _ _ _ h4, ha => by
  have h := PW.rg3 h4 (fun x hx => ha x (by simp [hx]))
  exact ⟨by simp only [PT.rg3]; exact ⟨h.1, h.2.1⟩, h.2.2⟩
theorem PW.rg3 {placed : Bool} : ∀ {ws : List Wt} {l : List Tk} {nm rg : List UInt8} {kids : List PT} {r : List Tk}, PW placed ws l nm rg kids r → (∀ t ∈ l, RgTame t) → (0 ≤ valueL rg ∧ valueL rg ≤ 999) ∧ rg3L kids ∧ ∀ t ∈ r, RgTame t
 | _, _, _, _, _, _, .nil, ha => ⟨by decide, by simp [rg3L], ha⟩
 | _, _, _, _, _, _, .close _ h1, ha => PW.rg3 h1 (fun x hx => ha x (by simp [hx]))
 | _, _, _, _, _, _, .name _ h1, ha => PW.rg3 h1 (fun x hx => ha x (by simp [hx]))
 | _, _, _, _, _, _, .region (t := t) h h1, ha => by
  have h' := PW.rg3 h1 (fun x hx => ha x (by simp [hx]))
  exact ⟨ha t (by simp) h, h'.2⟩
 | _, _, _, _, _, _, .e h0 h1, ha => by
  have a := PE.rg3 h0 ha
  have b := PW.rg3 h1 a.2
  exact ⟨b.1, by simp only [rg3L]; exact ⟨a.1, b.2.1⟩, b.2.2⟩
end
mutual
theorem prl_rg3 : ∀ t : PT, t.rg3 → ∀ x ∈ t.prl, 0 ≤ valueL x.2 ∧ valueL x.2 ≤ 999
 | .num _ _, _, x, hx => by simp [PT.prl] at hx
 | .name _ _, _, x, hx => by simp [PT.prl] at hx
 | .node p k _ rg kids, h, x, hx => by
  simp only [PT.rg3] at h
  simp only [PT.prl, List.mem_append] at hx
  rcases hx with hx | hx
  ·split at hx
   ·rw [List.mem_singleton] at hx; subst hx; exact h.1
   ·simp at hx
  ·exact prlL_rg3 kids h.2 x hx
theorem prlL_rg3 : ∀ ts : List PT, rg3L ts → ∀ x ∈ prlL ts, 0 ≤ valueL x.2 ∧ valueL x.2 ≤ 999
 | [], _, x, hx => by simp [prlL] at hx
 | t :: r, h, x, hx => by
  simp only [rg3L] at h
  simp only [prlL, List.mem_append] at hx
  rcases hx with hx | hx
  ·exact prl_rg3 t h.1 x hx
  ·exact prlL_rg3 r h.2 x hx
end
def clsOf (e : PT) : List Nat := e.prl.map (fun x => (valueL x.2).toNat)
theorem clsOf_len (e : PT) : (clsOf e).length = e.prs := by unfold clsOf; rw [List.length_map, prl_len]
theorem clsOf_lt {e : PT} (h : e.rg3) : ∀ x ∈ clsOf e, x < 1000 := by
 intro x hx
 unfold clsOf at hx
 rw [List.mem_map] at hx
 obtain ⟨y, hy, rfl⟩ := hx
 have := prl_rg3 e h y hy
 omega
end Go.Proofs.YtpicaknklgccoaaGreatDoor
namespace Go.Proofs.YtpicaknklgccoaaGreatDoor
open Go.RowKit
set_option maxHeartbeats 400000 in
theorem StudyP_long (s : ByteArray) (w : World) (hs : 9000 < s.size) (hm : s.size ≤ maxLen) :
  Calls Tryz.prog 33 #[.string s, .bool true] w fun v w' => v = .returned (.tuple #[.pointer none, .pointer none, .int .i64 1, .int .i64 0]) ∧ Below w.heap.size w w' := by
 unfold maxLen at hm
 go_enter Tryz.func33, Tryz.ntmps33
 go_wp2
 refine bodyPost_ret (v := .tuple #[.pointer none, .pointer none, .int .i64 1, .int .i64 0]) (by simp [results, Tryz.results33, go_sem]) rfl ⟨rfl, Below.refl _ _⟩
set_option maxHeartbeats 400000 in
theorem StudyP_form (s : ByteArray) (w : World) (hs : s.size ≤ 9000) (q : Nat) (hq : formOf true s.data.toList = some q) :
  Calls Tryz.prog 33 #[.string s, .bool true] w fun v w' => v = .returned (.tuple #[.pointer none, .pointer none, .int .i64 2, .int .i64 q]) ∧ Below w.heap.size w w' := by
 have hf := fun w => Form_any s true w (by omega)
 rw [hq] at hf
 simp only [formInt] at hf
 go_enter Tryz.func33, Tryz.ntmps33
 go_wp2_with (go_at_call 60; refine (hf _).mono ?_; rintro e w1 ⟨rfl, hb1⟩)
 refine bodyPost_ret (v := .tuple #[.pointer none, .pointer none, .int .i64 2, .int .i64 q]) (by simp [results, Tryz.results33, go_sem]) rfl ⟨rfl, hb1⟩
set_option maxRecDepth 100000 in
set_option maxHeartbeats 1000000 in
theorem StudyP_many (s : ByteArray) (w : World) (hs : s.size ≤ 9000) (e : PT) (hp : PE true (tokens s.data.toList) e []) (hn : formOf true s.data.toList = none) (hm : 100 < e.prs) :
  Calls Tryz.prog 33 #[.string s, .bool true] w fun v w' => ∃ q : Nat, v = .returned (.tuple #[.pointer none, .pointer none, .int .i64 3, .int .i64 q]) ∧ (e.prl[100]?).map (·.1) = some q ∧ Below w.heap.size w w' := by
 have hf := fun w => Form_any s true w (by omega)
 rw [hn] at hf
 simp only [formInt] at hf
 have hbu := fun w => Build_any s true e w (by omega) hp
 have hcnt := Study_len hp
 have hpa := fun b F w h => pairs_any e b F w (by omega) h
 have hpc := prs_cnt e
 unfold ptr at hbu hpa
 clear hp hn
 go_enter Tryz.func33, Tryz.ntmps33
 go_wp2_with (first
  | (go_at_call 60; refine (hf _).mono ?_; rintro _ w1 ⟨rfl, hb1⟩)
  | (go_at_call 61; refine (hbu _).mono ?_; rintro _ w2 ⟨b, rfl, hb2, hT2⟩))
 refine (hpa b _ w2 hT2).mono ?_
 rintro _ w3 ⟨g, cap, vs, rfl, hb3, ho3, hvs⟩
 obtain ⟨b', r, hv, hrec, hip, hsite, hmem⟩ := hvs 100 hm
 have hpr := prl_at e r 100 hmem hip hsite
 have hbw := blk_lt hrec.choose_spec
 have c1 : w3.cell? ⟨g, 100, none⟩ = some (.pointer (some ⟨b', 0, none⟩)) := by rw [ho3.cellAt 100 (by omega)]; exact hv
 have c2 : w3.cell? ⟨b', 1, none⟩ = some (.int .i64 r.p) := by rw [hb3.cell (p := ⟨b', 1, none⟩) hbw]; exact isRec_cells hrec
 have HB : Hid (Below w.heap.size w w3) := hb1.trans ((hb2.mono hb1.size).trans (hb3.mono (Nat.le_trans hb1.size hb2.size)))
 have HPR : Hid _ := hpr
 have hgw := World.block_lt_of_cell? _ _ c1
 clear hvs ho3 hv hrec hpr hmem hb1 hb2 hb3 hT2 hip hsite
 go_wp2
 go_quiet (fail)
 go_wp2
 refine bodyPost_ret (v := .tuple #[.pointer none, .pointer none, .int .i64 3, .int .i64 r.p]) (by simp [results, Tryz.results33, go_sem]) rfl ⟨r.p, rfl, HPR.out, HB.out.trans ⟨rfl, rfl, rfl, Nat.le_refl _, fun _ _ => rfl⟩⟩
set_option maxRecDepth 100000 in
set_option maxHeartbeats 2000000 in
theorem StudyP_ok (s : ByteArray) (w : World) (hs : s.size ≤ 9000) (e : PT) (hp : PE true (tokens s.data.toList) e []) (hn : formOf true s.data.toList = none) (hm : e.prs ≤ 100) (hit : ∀ w', Below w.heap.size w w' → ItoaOk w') :
  Calls Tryz.prog 33 #[.string s, .bool true] w fun v w' => ∃ b yb : Nat, v = .returned (.tuple #[ptr b, ptr yb, .int .i64 (tyFind (clsOf e) e 0 0 [] (st0 e)).2.e, .int .i64 (tyFind (clsOf e) e 0 0 [] (st0 e)).2.at_]) ∧
   Below w.heap.size w w' ∧ IsT w' (fun k => k < w'.heap.size) e 0 0 b ∧ ∃ (wz : World) (cv nv tv ov : Value), Below w.heap.size w wz ∧ IsT wz (fun k => k < wz.heap.size) e 0 0 b ∧ TyIn wz w' yb (clsOf e) cv nv tv ov [] (tyFind (clsOf e) e 0 0 [] (st0 e)).2 := by
 obtain ⟨i0, hi, hz0, hz1, hz2⟩ := info_parts Tryz.infoInt
 have HI : Hid _ := hi
 have HZ0 : Hid _ := hz0
 have HZ1 : Hid _ := hz1
 have HZ2 : Hid _ := hz2
 clear hi hz0 hz1 hz2
 have hf := fun w => Form_any s true w (by omega)
 rw [hn] at hf
 simp only [formInt] at hf
 have hbu := fun w => Build_any s true e w (by omega) hp
 have hcnt := Study_len hp
 have hpa := fun b F w h => pairs_any e b F w (by omega) h
 have hwf := hp.wf
 have hrg := (hp.rg3 (tokens_rg _)).1
 unfold ptr at hbu hpa
 have HWF : Hid _ := hwf
 obtain ⟨C, hC⟩ : ∃ C, C = clsOf e := ⟨_, rfl⟩
 rw [← hC]
 have HCC : Hid _ := hC
 clear hp hn hwf hC
 go_enter Tryz.func33, Tryz.ntmps33
 go_wp2_with (first
  | (go_at_call 60; refine (hf _).mono ?_; rintro _ w1 ⟨rfl, hb1⟩)
  | (go_at_call 61; refine (hbu _).mono ?_; rintro _ w2 ⟨b, rfl, hb2, hT2⟩))
 refine (hpa b _ w2 hT2).mono ?_
 rintro _ w3 ⟨g, cap, vs, rfl, hb3, ho3, hvs⟩
 have hT3 : IsT w3 (fun k => k < w3.heap.size) e 0 0 b := IsT.keep (fun k hk => Nat.lt_of_lt_of_le hk hb3.size) (fun k hk => hb3.block k hk) _ _ _ _ hT2
 have HT3 : Hid _ := hT3
 have HB : Hid (Below w.heap.size w w3) := hb1.trans ((hb2.mono hb1.size).trans (hb3.mono (Nat.le_trans hb1.size hb2.size)))
 have hw3 : w.heap.size ≤ w3.heap.size := HB.out.size
 obtain ⟨n, hnn⟩ : ∃ n, n = e.prs := ⟨_, rfl⟩
 rw [← hnn] at hm ⊢
 have HNN : Hid _ := hnn
 have hat : ∀ k, k < n → ∃ (b' x : Nat), C[k]? = some x ∧ w3.cell? ⟨g, k, none⟩ = some (.pointer (some ⟨b', 0, none⟩)) ∧ w3.cell? ⟨b', 3, none⟩ = some (.int .i64 x) ∧ b' < w3.heap.size ∧ g < w3.heap.size := by
  intro k hk
  obtain ⟨b', r, hv, hrec, hip, hsite, hmem⟩ := hvs k (by omega)
  obtain ⟨_, _, rg, hpr, hrn⟩ := (recs_pairs e 0 0).2.1 r hmem hip
  rw [hsite, Nat.sub_zero] at hpr
  have hr3 := prl_rg3 e hrg _ (List.mem_of_getElem? hpr)
  obtain ⟨kv, hblk⟩ := hrec
  have hb' := blk_lt hblk
  have c1 : w3.cell? ⟨g, k, none⟩ = some (.pointer (some ⟨b', 0, none⟩)) := by rw [ho3.cellAt k (by omega)]; exact hv
  refine ⟨b', (valueL rg).toNat, by rw [HCC.out]; unfold clsOf; rw [List.getElem?_map, hpr]; rfl, c1, ?_, by have := hb3.size; omega, World.block_lt_of_cell? _ _ c1⟩
  rw [hb3.cell (p := ⟨b', 3, none⟩) hb', blk_cell hblk]
  have : ((valueL rg).toNat : Int) = r.n := by rw [hrn]; simp only at hr3; omega
  rw [this]; rfl
 have hcll : C.length = n := by rw [HCC.out, clsOf_len, hnn]
 have HAT : Hid _ := hat
 have HCLT : Hid (∀ x ∈ C, x < 1000) := by show ∀ x ∈ C, x < 1000; rw [HCC.out]; exact clsOf_lt hrg
 have HITW : Hid _ := hit
 clear hvs ho3 hb1 hb2 hb3 hT2 hT3 hbu hpa hf hnn hat hrg hit
 go_wp2
 go_loopw [12, 13] (fun v i wr => ∃ k : Nat, k ≤ n ∧ i = .int .i64 k ∧ wr.ownsRow w3.heap.size 3 1 v k ((C.take k).map fun (x : Nat) => Value.int .i64 x) ∧ Below w3.heap.size w3 wr) (fun _ i _ => n - (intOf i).toNat)
 case atStart => exact ⟨0, by omega, rfl, World.ownsRow_nil _ _ _ _, Below.refl _ _⟩
 case round =>
  obtain ⟨k, hk, rfl, hown, hbel⟩ := hrel
  have HOWN : Hid (wr.ownsRow w3.heap.size 3 1 _ k ((C.take k).map fun (x : Nat) => Value.int .i64 x)) := hown
  have hsz := hbel.size
  clear hown
  by_cases hlt : k < n
  ·obtain ⟨b', x, hx, k1, k2, kb, kg⟩ := HAT.out k hlt
   have m1 : wr.cell? ⟨g, k, none⟩ = some (.pointer (some ⟨b', 0, none⟩)) := (hbel.cell (p := ⟨g, k, none⟩) kg).trans k1
   have m2 : wr.cell? ⟨b', 3, none⟩ = some (.int .i64 x) := (hbel.cell (p := ⟨b', 3, none⟩) kb).trans k2
   have mb : b' < wr.heap.size := by omega
   have mg : g < wr.heap.size := by omega
   have HX : Hid _ := hx
   clear hx k1 k2
   go_wp2_with (at_builtin; go_must (refine wpList_append_own _ rfl (.tmp 46) (.tmp 54) 42 rfl w3.heap.size 3 i0 _ 1 8 Tryz.undInts HI.out HZ0.out HZ1.out HZ2.out rfl (by decide) _ k ((C.take k).map fun (x : Nat) => Value.int .i64 x) rfl (HOWN.out.alloc _) ⟨wr.heap.size, 0, none⟩ 1 1 [.int .i64 x] rfl rfl ?c1 ?c2 ?c3 ?c4 ?c5 ?_))
   case c1 =>
    intro j u hj
    rw [← hj]
    exact alloc_cell_at _ _ _ _
   case c2 => intro u hu; simp at hu; subst hu; rfl
   case c3 => unfold maxLen; omega
   case c4 => first | omega | (simp; omega)
   case c5 => first | omega | (simp; omega)
   intro v' w4 hown' hgrow hnil
   have HB2 : Hid (Below w3.heap.size w3 w4) := (hbel.alloc hsz _).grown hgrow (by simp; omega) (fun b hb => (World.ownsRow.lt HOWN.out b hb).1)
   have HO3 : Hid _ := hown'
   clear hown' hgrow hnil
   go_wp2
   go_roundw
   case rel =>
    refine ⟨k + 1, by omega, by go_num, ?_, HB2.out⟩
    have := HO3.out
    rw [List.take_add_one, HX.out, List.map_append, List.map_take]
    exact this
   case measure => simp [intOf]; omega
  ·have hkn : k = n := by omega
   have HKN : Hid _ := hkn
   have hcs := HOWN.out.2
   have htk : C.take k = C := List.take_of_length_le (by omega)
   have hty := Types_any (w0 := w3) (cls := C) ⟨HCLT.out, fun x hx w' hb => HITW.out w3 HB.out x w' (by have := HCLT.out x hx; omega) hb⟩ (by omega) e HWF.out b _ _ wr HT3.out (by omega) hbel (by have h := HOWN.out; rw [htk] at h; rw [hcll, ← hkn]; exact h) (by rw [hcll, HNN.out]; exact Nat.le_refl _) (by
    rcases hcs with ⟨h, _⟩ | ⟨g', cap', cur, h, _⟩
    ·exact ⟨_, _, _, h⟩
    ·exact ⟨_, _, _, h⟩)
   unfold ptr at hty
   have HBEL : Hid _ := hbel
   clear hcs hkn htk hbel
   go_wp2_with fail
   refine hty.mono ?_
   rintro _ w5 ⟨yb, nv, tv, ov, rfl, hsz5, hb5, hin5⟩
   have c4 : w5.cell? ⟨yb, 4, none⟩ = some (.int .i64 (tyFind C e 0 0 [] (st0 e)).2.e) := by rw [blk_cell hin5.y]; rfl
   have c5 : w5.cell? ⟨yb, 5, none⟩ = some (.int .i64 (tyFind C e 0 0 [] (st0 e)).2.at_) := by rw [blk_cell hin5.y]; rfl
   have HB5 : Hid (Below w.heap.size w w5) := HB.out.trans ((HBEL.out.mono hw3).trans (hb5.mono (by omega)))
   have HT5 : Hid (IsT w5 (fun k => k < w5.heap.size) e 0 0 b) := IsT.keep (fun k hk => by omega) (fun k hk => hin5.b0.block k hk) _ _ _ _ HT3.out
   have HIN5 : Hid _ := hin5
   clear hin5 hb5 hty
   obtain ⟨R, hR⟩ : ∃ R, R = (tyFind C e 0 0 [] (st0 e)).2 := ⟨_, rfl⟩
   rw [← hR] at c4 c5
   have HRR : Hid (R = (tyFind C e 0 0 [] (st0 e)).2) := hR
   clear hR
   go_wp2
   go_quiet (fail)
   go_wp2
   refine bodyPost_ret (v := .tuple #[ptr b, ptr yb, .int .i64 R.e, .int .i64 R.at_]) (by simp [results, Tryz.results33, go_sem, ptr]) rfl ⟨b, yb, by rw [HRR.out], HB5.out.trans ⟨rfl, rfl, rfl, Nat.le_refl _, fun _ _ => rfl⟩, isT_drew HT5.out, w3, _, nv, tv, ov, HB.out, HT3.out, HIN5.out.grow ⟨rfl, rfl, rfl, Nat.le_refl _, fun _ _ => rfl⟩⟩
theorem slice_anyU {w : World} {base : Nat} {e : TypeId} {size : Nat} {v : Value} {n : Nat} {xs : List Value} (h : w.ownsRow base e size v n xs) : ∃ a c, v = .slice a n c := by
 rcases h.2 with ⟨h1, h2⟩ | ⟨g, cap, cur, h1, _⟩
 ·exact ⟨none, 0, by rw [h1, h2]⟩
 ·exact ⟨_, _, h1⟩
set_option maxRecDepth 100000 in
set_option maxHeartbeats 4000000 in
theorem parsePlaced_full (s : ByteArray) (w : World) (hs : s.size ≤ 9000) (e : PT) (hp : PE true (tokens s.data.toList) e []) : Calls Tryz.prog 54 #[.string s] w fun v w' => ∃ x1 n1 c1 x2 n2 c2 ns, v = .returned (.tuple #[treeV (.slice x1 n1 c1) (.slice x2 n2 c2), .int .i64 0, .int .i64 0]) ∧ Below w.heap.size w w' ∧ TreeIn w' (.slice x1 n1 c1) (.slice x2 n2 c2) ns (opn e 0) ∧ NA [] e 0 ns := by
 obtain ⟨ns, hna, hpg⟩ := prog_yes (len := s.size) hp
 have hpp := fun w => ParsePlaced_any s w (by omega)
 have HPG : Hid _ := hpg
 have HNA : Hid _ := hna
 clear hp hna hpg
 go_enter Tryz.func54, Tryz.ntmps54
 go_wp2_with fail
 refine (hpp _).mono ?_
 rintro v w1 ⟨hb, hv⟩
 have hr := kept1 hb
 have hlt := blk_lt hr
 have HB : Hid _ := below1 hb
 rcases hv with ⟨q', hq', _⟩ | ⟨_, nv, ov, rfl, hT⟩
 ·rw [HPG.out] at hq'; cases hq'
 ·rw [HPG.out] at hT
  simp only at hT
  obtain ⟨x1, c1, e1⟩ := slice_anyU hT.nd
  obtain ⟨x2, c2, e2⟩ := slice_anyU hT.op
  have HNN : Hid _ := own_neH hT.nd hr (by decide)
  have HNO : Hid _ := own_neH hT.op hr (by decide)
  subst e1
  subst e2
  have r0 : w1.cell? ⟨w.heap.size, 0, none⟩ = some (.slice none 0 0) := by rw [blk_cell hr]; rfl
  have r1 : w1.cell? ⟨w.heap.size, 1, none⟩ = some (.slice none 0 0) := by rw [blk_cell hr]; rfl
  have f0 := blk_free hr 0
  have f1 := blk_free hr 1
  have hW := blk_alloc (.cells #[.slice x1 ns.length c1, .slice x2 (opn e 0).length c2] 59) (blk_set (blk_set hr 0 (.slice x1 ns.length c1)) 1 (.slice x2 (opn e 0).length c2))
  have S0 : Hid ((((w1.setCell ⟨w.heap.size, 0, none⟩ (.slice x1 ns.length c1)).setCell ⟨w.heap.size, 1, none⟩ (.slice x2 (opn e 0).length c2)).alloc (.cells #[.slice x1 ns.length c1, .slice x2 (opn e 0).length c2] 59)).cell? ⟨w.heap.size, 0, none⟩ = some (.slice x1 ns.length c1)) := (blk_cell hW 0).trans rfl
  have S1 : Hid ((((w1.setCell ⟨w.heap.size, 0, none⟩ (.slice x1 ns.length c1)).setCell ⟨w.heap.size, 1, none⟩ (.slice x2 (opn e 0).length c2)).alloc (.cells #[.slice x1 ns.length c1, .slice x2 (opn e 0).length c2] 59)).cell? ⟨w.heap.size, 1, none⟩ = some (.slice x2 (opn e 0).length c2)) := (blk_cell hW 1).trans rfl
  have hTS : TreeIn ((w1.setCell ⟨w.heap.size, 0, none⟩ (.slice x1 ns.length c1)).setCell ⟨w.heap.size, 1, none⟩ (.slice x2 (opn e 0).length c2)) (.slice x1 ns.length c1) (.slice x2 (opn e 0).length c2) ns (opn e 0) := ⟨owns_blk hT.nd (fun k hk => by rw [blk_other _ _ (by simpa using HNN.out k hk), blk_other _ _ (by simpa using HNN.out k hk)]), owns_blk hT.op (fun k hk => by rw [blk_other _ _ (by simpa using HNO.out k hk), blk_other _ _ (by simpa using HNO.out k hk)])⟩
  have HTS : Hid _ := hTS.below ((Below.refl _ _).alloc (Nat.le_refl _) (.cells #[.slice x1 ns.length c1, .slice x2 (opn e 0).length c2] 59))
  have hne : w.heap.size ≠ w1.heap.size := by omega
  unfold treeV
  clear hT hb hr hpp hW hTS
  go_wp2
  refine bodyPost_ret (v := .tuple #[.agg #[.slice x1 ns.length c1, .slice x2 (opn e 0).length c2], .int .i64 0, .int .i64 0]) (by have s0 := S0.out; have s1 := S1.out; simp [results, Tryz.results54, go_sem, s0, s1]) rfl ⟨x1, ns.length, c1, x2, (opn e 0).length, c2, ns, rfl, ?_, HTS.out, HNA.out⟩
  exact ((HB.out.setCell (p := ⟨w.heap.size, 0, none⟩) (Nat.le_refl _) _).setCell (p := ⟨w.heap.size, 1, none⟩) (Nat.le_refl _) _).alloc (by have := HB.out.size; simp [World.setCell]; omega) _
set_option maxRecDepth 100000 in
set_option maxHeartbeats 4000000 in
theorem readPlaced_bad (s : ByteArray) (w : World) (x y : Nat) (hx : x ≠ 0) (hpp : ∀ w, Calls Tryz.prog 54 #[.string s] w fun v w' => v = .returned (.tuple #[treeV (.slice none 0 0) (.slice none 0 0), .int .i64 x, .int .i64 y]) ∧ Below w.heap.size w w') : Calls Tryz.prog 42 #[.string s] w fun v w' => v = .returned (.tuple #[treeV (.slice none 0 0) (.slice none 0 0), .int .i64 x, .int .i64 y]) ∧ Below w.heap.size w w' := by
 have qx : ((x : Int) != 0) = true := by simp; omega
 unfold treeV at hpp
 unfold treeV
 have HPP : Hid _ := hpp
 clear hpp
 go_enter Tryz.func42, Tryz.ntmps42
 go_wp2_with fail
 refine (HPP.out _).mono ?_
 rintro _ w1 ⟨rfl, hb⟩
 have hr := kept1 hb
 have hlt := blk_lt hr
 have r0 : w1.cell? ⟨w.heap.size, 0, none⟩ = some (.slice none 0 0) := by rw [blk_cell hr]; rfl
 have r1 : w1.cell? ⟨w.heap.size, 1, none⟩ = some (.slice none 0 0) := by rw [blk_cell hr]; rfl
 have f0 := blk_free hr 0
 have f1 := blk_free hr 1
 have hW := blk_alloc (.cells #[.slice none 0 0, .slice none 0 0] 59) (blk_set (blk_set hr 0 (.slice none 0 0)) 1 (.slice none 0 0))
 have S0 : Hid ((((w1.setCell ⟨w.heap.size, 0, none⟩ (.slice none 0 0)).setCell ⟨w.heap.size, 1, none⟩ (.slice none 0 0)).alloc (.cells #[.slice none 0 0, .slice none 0 0] 59)).cell? ⟨w.heap.size, 0, none⟩ = some (.slice none 0 0)) := (blk_cell hW 0).trans rfl
 have S1 : Hid ((((w1.setCell ⟨w.heap.size, 0, none⟩ (.slice none 0 0)).setCell ⟨w.heap.size, 1, none⟩ (.slice none 0 0)).alloc (.cells #[.slice none 0 0, .slice none 0 0] 59)).cell? ⟨w.heap.size, 1, none⟩ = some (.slice none 0 0)) := (blk_cell hW 1).trans rfl
 have HB : Hid _ := below1 hb
 clear hb hr hW HPP
 go_wp2
 refine bodyPost_ret (v := .tuple #[.agg #[.slice none 0 0, .slice none 0 0], .int .i64 x, .int .i64 y]) (by have s0 := S0.out; have s1 := S1.out; simp [results, Tryz.results42, go_sem, s0, s1]) rfl ⟨rfl, ?_⟩
 exact ((HB.out.setCell (p := ⟨w.heap.size, 0, none⟩) (Nat.le_refl _) _).setCell (p := ⟨w.heap.size, 1, none⟩) (Nat.le_refl _) _).alloc (by have := HB.out.size; simp [World.setCell]; omega) _
set_option maxRecDepth 100000 in
set_option maxHeartbeats 4000000 in
theorem readPlaced_full (s : ByteArray) (w : World) (hs : s.size ≤ 9000) (e : PT) (hp : PE true (tokens s.data.toList) e []) : Calls Tryz.prog 42 #[.string s] w fun v w' => ∃ x1 n1 c1 x2 n2 c2 ns, v = .returned (.tuple #[treeV (.slice x1 n1 c1) (.slice x2 n2 c2), .int .i64 (chkAns e).1, .int .i64 (chkAns e).2]) ∧ Below w.heap.size w w' ∧ TreeIn w' (.slice x1 n1 c1) (.slice x2 n2 c2) ns (opn e 0) ∧ NA [] e 0 ns := by
 have hcnt := Study_len hp
 have hpp := fun w => parsePlaced_full s w hs e hp
 have hpr := fun (w : World) (nv ov : Value) (ns : List NR) (hna : NA [] e 0 ns) (h : TreeIn w nv ov ns (opn e 0)) => Program_any w nv ov ns (opn e 0) h (op_ok hna) (by have := hna.len; omega) (hna.small (fun _ h => by simp at h) (by omega)) (fun j n hj => by have := hna.back j n hj; simpa using this)
 unfold treeV at hpp
 have HPR : Hid _ := hpr
 have HPP : Hid _ := hpp
 clear hp hpr hpp
 obtain ⟨ans, hans⟩ : ∃ ans, ans = chkAns e := ⟨_, rfl⟩
 rw [← hans]
 have HANS : Hid _ := hans
 clear hans
 go_enter Tryz.func42, Tryz.ntmps42
 go_wp2_with fail
 refine (HPP.out _).mono ?_
 rintro _ w1 ⟨x1, n1, c1, x2, n2, c2, ns, rfl, hb, hT, hna⟩
 have hr := kept1 hb
 have hlt := blk_lt hr
 have HB : Hid _ := below1 hb
 have HR : Hid _ := hr
 have HNN : Hid _ := own_neH hT.nd hr (by decide)
 have HNO : Hid _ := own_neH hT.op hr (by decide)
 have hT1 := hT.below ((Below.refl _ w1).alloc (Nat.le_refl _) (.cells #[.slice x1 n1 c1, .slice x2 n2 c2] 59))
 have hpr := HPR.out (w1.alloc (.cells #[.slice x1 n1 c1, .slice x2 n2 c2] 59)) _ _ ns hna hT1
 rw [prog_ans hna, ← HANS.out] at hpr
 have HNA : Hid _ := hna
 unfold treeV at hpr
 clear hT hb hr HPP HPR hna
 go_wp2_with fail
 refine hpr.mono ?_
 rintro _ w2 ⟨rfl, hb2⟩
 have HT2 : Hid _ := hT1.below hb2
 have hk := kept1 hb2
 have k0 : w2.cell? ⟨w1.heap.size, 0, none⟩ = some (.slice x1 n1 c1) := by rw [blk_cell hk]; rfl
 have k1 : w2.cell? ⟨w1.heap.size, 1, none⟩ = some (.slice x2 n2 c2) := by rw [blk_cell hk]; rfl
 have hr2 : w2.heap[w.heap.size]? = some (.cells #[.slice none 0 0, .slice none 0 0] 59 (0, 0)) := by
  rw [hb2.block _ (by simp; omega)]; exact blk_alloc _ HR.out
 have r0 : w2.cell? ⟨w.heap.size, 0, none⟩ = some (.slice none 0 0) := by rw [blk_cell hr2]; rfl
 have r1 : w2.cell? ⟨w.heap.size, 1, none⟩ = some (.slice none 0 0) := by rw [blk_cell hr2]; rfl
 have f0 := blk_free hr2 0
 have f1 := blk_free hr2 1
 have hB2 : Below w.heap.size w w2 := HB.out.trans ((below1 hb2).mono HB.out.size)
 have HB2 : Hid _ := hB2
 have hne : w.heap.size ≠ w1.heap.size := by omega
 clear hk hr2 hb2 hB2 hpr hT1
 go_wp2
 refine bodyPost_ret (v := .tuple #[.agg #[.slice x1 n1 c1, .slice x2 n2 c2], .int .i64 ans.1, .int .i64 ans.2]) (by simp [results, Tryz.results42, go_sem, r0, r1]) rfl ⟨x1, n1, c1, x2, n2, c2, ns, rfl, ?_, ⟨owns_blk HT2.out.nd (fun k hk => by rw [blk_other _ _ (by simpa using HNN.out k hk), blk_other _ _ (by simpa using HNN.out k hk)]), owns_blk HT2.out.op (fun k hk => by rw [blk_other _ _ (by simpa using HNO.out k hk), blk_other _ _ (by simpa using HNO.out k hk)])⟩, HNA.out⟩
 exact (HB2.out.setCell (p := ⟨w.heap.size, 0, none⟩) (Nat.le_refl _) _).setCell (p := ⟨w.heap.size, 1, none⟩) (Nat.le_refl _) _
set_option maxRecDepth 100000 in
set_option maxHeartbeats 4000000 in
theorem leaseRun_bad (s : ByteArray) (fuel : Int) (w : World) (x y : Nat) (hx : x ≠ 0) (hrd : ∀ w, Calls Tryz.prog 42 #[.string s] w fun v w' => ∃ x1 n1 c1 x2 n2 c2, v = .returned (.tuple #[treeV (.slice x1 n1 c1) (.slice x2 n2 c2), .int .i64 x, .int .i64 y]) ∧ Below w.heap.size w w') :
  Calls Tryz.prog 18 #[.string s, .int .i64 fuel] w fun v w' => v = .returned (.tuple #[.agg #[.string ⟨#[]⟩, .int .i64 0, .int .i64 0, .int .i64 0, .int .i64 0], .int .i64 x]) ∧ Below w.heap.size w w' := by
 unfold treeV at hrd
 have q : ((x : Int) != 0) = true := by simp; omega
 have HR : Hid _ := hrd
 clear hrd
 go_enter Tryz.func18, Tryz.ntmps18
 go_wp2_with fail
 refine (HR.out _).mono ?_
 rintro _ w1 ⟨x1, n1, c1, x2, n2, c2, rfl, hb⟩
 have hq : w1.heap[w.heap.size]? = some (.cells #[.string ⟨#[]⟩, .int .i64 0, .int .i64 0, .int .i64 0, .int .i64 0] 23) := kept1 hb
 have HB : Hid _ := below1 hb
 clear hb HR
 have hq2 := blk_alloc (.cells #[.slice x1 n1 c1, .slice x2 n2 c2] 59) hq
 have HB2 : Hid (Below w.heap.size w (w1.alloc (.cells #[.slice x1 n1 c1, .slice x2 n2 c2] 59))) := below_al HB.out _
 clear hq HB
 go_wp2_with (refine st_row rfl 23 (.tmp 4) (.tmp 17) rfl w.heap.size #[.string ⟨#[]⟩, .int .i64 0, .int .i64 0, .int .i64 0, .int .i64 0] rfl rfl 23 _ hq2 Tryz.infoRes rfl (by simp [Value.oneCell']) ?_; intro W hW hWs hWo hW1 hW2 hW3)
 obtain ⟨s0, s1, s2, s3, s4⟩ := res_cells hW
 have HBN : Hid _ := below_new HB2.out (Nat.le_refl _) hWs hWo hW1 hW2 hW3
 clear hW hWs hWo hW1 hW2 hW3 HB2 hq2
 go_wp2
 refine bodyPost_ret (v := .tuple #[.agg #[.string ⟨#[]⟩, .int .i64 0, .int .i64 0, .int .i64 0, .int .i64 0], .int .i64 x]) (by simp [results, Tryz.results18, go_sem, s0, s1, s2, s3, s4]) rfl ⟨rfl, HBN.out⟩
set_option maxRecDepth 100000 in
set_option maxHeartbeats 4000000 in
theorem leaseRun_ok (s : ByteArray) (fuel : Int) (w : World) (e : PT) (y : Nat) (S : ByteArray) (a b c d E : Int) (hrd : ∀ w, Calls Tryz.prog 42 #[.string s] w fun v w' => ∃ x1 n1 c1 x2 n2 c2 ns, v = .returned (.tuple #[treeV (.slice x1 n1 c1) (.slice x2 n2 c2), .int .i64 0, .int .i64 y]) ∧ Below w.heap.size w w' ∧ TreeIn w' (.slice x1 n1 c1) (.slice x2 n2 c2) ns (opn e 0) ∧ NA [] e 0 ns)
  (hrn : ∀ (w' : World) (x1 : Option Addr) (n1 c1 : Nat) (x2 : Option Addr) (n2 c2 : Nat) (ns : List NR), Below w.heap.size w w' → TreeIn w' (.slice x1 n1 c1) (.slice x2 n2 c2) ns (opn e 0) → NA [] e 0 ns → Calls Tryz.prog 32 #[treeV (.slice x1 n1 c1) (.slice x2 n2 c2), .int .i64 fuel] w' fun v w'' => v = .returned (.tuple #[.agg #[.string S, .int .i64 a, .int .i64 b, .int .i64 c, .int .i64 d], .int .i64 E]) ∧ Below w'.heap.size w' w'') :
  Calls Tryz.prog 18 #[.string s, .int .i64 fuel] w fun v w' => v = .returned (.tuple #[.agg #[.string S, .int .i64 a, .int .i64 b, .int .i64 c, .int .i64 d], .int .i64 E]) ∧ Below w.heap.size w w' := by
 unfold treeV at hrd hrn
 have HR : Hid _ := hrd
 have HN : Hid _ := hrn
 clear hrd hrn
 go_enter Tryz.func18, Tryz.ntmps18
 go_wp2_with fail
 refine (HR.out _).mono ?_
 rintro _ w1 ⟨x1, n1, c1, x2, n2, c2, ns, rfl, hb, hT, hna⟩
 have hq : w1.heap[w.heap.size]? = some (.cells #[.string ⟨#[]⟩, .int .i64 0, .int .i64 0, .int .i64 0, .int .i64 0] 23) := kept1 hb
 have hB := below1 hb
 obtain ⟨W2, hE2⟩ : ∃ W2, W2 = w1.alloc (.cells #[.slice x1 n1 c1, .slice x2 n2 c2] 59) := ⟨_, rfl⟩
 have hb2 : Below w1.heap.size w1 W2 := by rw [hE2]; exact below_al (Below.refl _ _) _
 have hrn2 := HN.out W2 x1 n1 c1 x2 n2 c2 ns (hB.trans (hb2.mono hB.size)) (hT.below hb2) hna
 have HRN : Hid _ := hrn2
 have HB2 : Hid _ := hB.trans (hb2.mono hB.size)
 have HQ2 : Hid (W2.heap[w.heap.size]? = some (.cells #[.string ⟨#[]⟩, .int .i64 0, .int .i64 0, .int .i64 0, .int .i64 0] 23)) := by
  show W2.heap[w.heap.size]? = _
  rw [hb2.block _ (blk_lt hq)]; exact hq
 clear hb hT hna hq hB hb2 hrn2 HR HN
 go_wp2_with fail
 rw [← hE2]
 refine Calls.mono HRN.out ?_
 rintro _ w3 ⟨rfl, hb3⟩
 have hq3 : w3.heap[w.heap.size]? = some (.cells #[.string ⟨#[]⟩, .int .i64 0, .int .i64 0, .int .i64 0, .int .i64 0] 23) := by rw [hb3.block _ (blk_lt HQ2.out)]; exact HQ2.out
 have HB3 : Hid _ := HB2.out.trans (hb3.mono HB2.out.size)
 clear hb3 HRN HB2 HQ2 hE2
 go_wp2_with (refine st_row rfl 23 (.tmp 4) (.tmp 22) rfl w.heap.size #[.string S, .int .i64 a, .int .i64 b, .int .i64 c, .int .i64 d] rfl rfl 23 _ hq3 Tryz.infoRes rfl (by simp [Value.oneCell']) ?_; intro W hW hWs hWo hW1 hW2 hW3)
 obtain ⟨s0, s1, s2, s3, s4⟩ := res_cells hW
 have HBN : Hid _ := below_new HB3.out (Nat.le_refl _) hWs hWo hW1 hW2 hW3
 clear hW hWs hWo hW1 hW2 hW3 HB3 hq3
 go_wp2
 refine bodyPost_ret (v := .tuple #[.agg #[.string S, .int .i64 a, .int .i64 b, .int .i64 c, .int .i64 d], .int .i64 E]) (by simp [results, Tryz.results18, go_sem, s0, s1, s2, s3, s4]) rfl ⟨rfl, HBN.out⟩
end Go.Proofs.YtpicaknklgccoaaGreatDoor
