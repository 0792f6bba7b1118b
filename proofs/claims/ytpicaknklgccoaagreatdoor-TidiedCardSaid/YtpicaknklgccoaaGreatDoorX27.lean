import Derived.Test.YtpicaknklgccoaaGreatDoorX14
namespace Go.Proofs.YtpicaknklgccoaaGreatDoor
def Tk.z (t : Tk) : Tk := { t with at_ := 0 }
def sk (l : List UInt8) : List Tk := (tokens l).map Tk.z
theorem toks_z : ∀ (f p q : Nat) (l : List UInt8), (toks f p l).map Tk.z = (toks f q l).map Tk.z
 | 0, _, _, _ => rfl
 | _ + 1, _, _, [] => rfl
 | f + 1, p, q, c :: r => by
  simp only [toks]
  split
  ·exact toks_z f _ _ _
  ·simp only [List.map_cons]; rw [toks_z f _ (q + (tokenOf (c :: r)).1)]; rfl
theorem toks_sk (f p : Nat) (l : List UInt8) (h : l.length ≤ f) : (toks f p l).map Tk.z = sk l := by
 unfold sk tokens; rw [toks_fuel f l.length p l h (Nat.le_refl _)]; exact toks_z _ _ _ _
theorem sk_nil : sk [] = [] := rfl
theorem sk_blank (c : UInt8) (r : List UInt8) (h : blankB c = true) : sk (c :: r) = sk r := by
 show (toks (r.length + 1) 0 (c :: r)).map Tk.z = _
 rw [toks_blank _ _ _ _ h]; exact toks_sk _ _ _ (Nat.le_refl _)
theorem sk_tok (a : UInt8) (t r : List UInt8) (c : Cl) (ha : blankB a = false) (h : tokenOf (a :: (t ++ r)) = (t.length + 1, c)) : sk (a :: (t ++ r)) = ⟨a :: t, 0, c⟩ :: sk r := by
 show (toks ((t ++ r).length + 1) 0 (a :: (t ++ r))).map Tk.z = _
 rw [toks_tok _ _ _ _ ha, h]
 simp only [List.map_cons, List.take_succ_cons, List.drop_succ_cons, List.take_left, List.drop_left]
 rw [toks_sk _ _ _ (by simp)]; rfl
theorem run_app (lo hi : Int) : ∀ (w r : List UInt8), (∀ c ∈ w, inB lo hi c = true) → (∀ c ∈ r.head?, inB lo hi c = false) → run lo hi (w ++ r) = w.length
 | [], [], _, _ => rfl
 | [], c :: r, _, h => by simp [run, h c (by simp)]
 | a :: w, r, h, h' => by
  simp only [List.cons_append, run, h a (by simp), if_true, List.length_cons]
  rw [run_app lo hi w r (fun c hc => h c (by simp [hc])) h']
def Stop (r : List UInt8) : Prop := ∀ c ∈ r.head?, inB 97 122 c = false ∧ inB 48 57 c = false
theorem stop_nil : Stop [] := by intro c h; simp at h
theorem stop_blank (r : List UInt8) : Stop (32 :: r) := by intro c h; simp at h; subst h; decide
theorem stop_close (r : List UInt8) : Stop (41 :: r) := by intro c h; simp at h; subst h; decide
def GoodN (s : List UInt8) : Prop := s ≠ [] ∧ (∀ c ∈ s, inB 97 122 c = true) ∧ s.length ≤ 8 ∧ kwOf s = none
def GoodD (s : List UInt8) (m : Nat) : Prop := (∀ c ∈ s, inB 48 57 c = true) ∧ numeralB s m = true
theorem inB_of {lo hi : Int} {c : UInt8} (h : inB lo hi c = true) : lo ≤ (c.toNat : Int) ∧ (c.toNat : Int) ≤ hi := by
 unfold inB at h; simp only [Bool.and_eq_true, decide_eq_true_eq] at h; exact h
theorem inB_not {lo hi : Int} {c : UInt8} (h : (c.toNat : Int) < lo ∨ hi < (c.toNat : Int)) : inB lo hi c = false := by
 cases hb : inB lo hi c with
 | false => rfl
 | true => have := inB_of hb; omega
theorem blank_not {c : UInt8} (h : 33 ≤ c.toNat) : blankB c = false := by
 unfold blankB
 rw [Bool.or_eq_false_iff]
 constructor <;> (rw [beq_eq_false_iff_ne]; rintro rfl; exact absurd h (by decide))
theorem sk_word (w r : List UInt8) (hne : w ≠ []) (hw : ∀ c ∈ w, inB 97 122 c = true) (hr : Stop r) : sk (w ++ r) = ⟨w, 0, wordCl w w.length⟩ :: sk r := by
 have hrun := run_app 97 122 w r hw (fun c hc => (hr c hc).1)
 cases w with
 | nil => exact absurd rfl hne
 | cons a t =>
  have ha := inB_of (hw a (by simp))
  refine sk_tok a t r _ (blank_not (by omega)) ?_
  have hrun' : run 97 122 (a :: (t ++ r)) = t.length + 1 := hrun
  unfold tokenOf
  rw [if_pos (by omega), hrun']
  simp
theorem sk_kw (k : Kw) (r : List UInt8) (hr : Stop r) : sk (k.bytes ++ r) = ⟨k.bytes, 0, .kw k⟩ :: sk r := by
 rw [sk_word k.bytes r (by cases k <;> decide) (by cases k <;> decide) hr]
 unfold wordCl; rw [kwOf_bytes]
theorem sk_name (s r : List UInt8) (h : GoodN s) (hr : Stop r) : sk (s ++ r) = ⟨s, 0, .nam⟩ :: sk r := by
 rw [sk_word s r h.1 h.2.1 hr]
 unfold wordCl; rw [h.2.2.2]; simp only; rw [if_pos h.2.2.1]
theorem numeral_pos {s : List UInt8} {m : Nat} (h : numeralB s m = true) : s ≠ [] := by
 rintro rfl; simp [numeralB] at h
theorem sk_num (s r : List UInt8) (h : GoodD s 4) (hr : Stop r) : sk (s ++ r) = ⟨s, 0, .num⟩ :: sk r := by
 have hrun := run_app 48 57 s r h.1 (fun c hc => (hr c hc).2)
 have hne := numeral_pos h.2
 cases s with
 | nil => exact absurd rfl hne
 | cons a t =>
  have ha := inB_of (h.1 a (by simp))
  refine sk_tok a t r _ (blank_not (by omega)) ?_
  have hrun' : run 48 57 (a :: (t ++ r)) = t.length + 1 := hrun
  have h0 : run 97 122 (a :: (t ++ r)) = 0 := by simp only [run]; rw [inB_not (by omega)]; simp
  unfold tokenOf
  rw [if_neg (by omega), if_pos (by omega), hrun']
  simp only [List.take_succ_cons, List.take_left]
  rw [if_pos h.2]
theorem sk_reg (d r : List UInt8) (h : GoodD d 3) (hr : Stop r) : sk (35 :: (d ++ r)) = ⟨35 :: d, 0, .reg⟩ :: sk r := by
 have hrun := run_app 48 57 d r h.1 (fun c hc => (hr c hc).2)
 refine sk_tok 35 d r _ (by decide) ?_
 unfold tokenOf
 rw [if_neg (by simp [run, inB]), if_neg (by simp [run, inB])]
 simp only [if_true]
 rw [hrun, List.take_left, if_pos h.2]
theorem sk_opn (r : List UInt8) : sk (40 :: r) = ⟨[40], 0, .opn⟩ :: sk r := by
 refine sk_tok 40 [] r _ (by decide) ?_
 unfold tokenOf
 rw [if_neg (by simp [run, inB]), if_neg (by simp [run, inB])]
 simp
theorem sk_cls (r : List UInt8) : sk (41 :: r) = ⟨[41], 0, .cls⟩ :: sk r := by
 refine sk_tok 41 [] r _ (by decide) ?_
 unfold tokenOf
 rw [if_neg (by simp [run, inB]), if_neg (by simp [run, inB])]
 simp
theorem sk_sp (r : List UInt8) : sk (32 :: r) = sk r := sk_blank 32 r (by decide)
mutual
def PT.ok (placed : Bool) : PT → Prop
 | .num _ s => GoodD s 4
 | .name _ s => GoodN s
 | .node _ k nm rg kids => wantsK k placed ≠ [] ∧ kids.length = arity k ∧ (if k = .let_ ∨ k = .loop then GoodN nm else nm = []) ∧ (if placed = true ∧ (k = .pair ∨ k = .new) then ∃ d, rg = 35 :: d ∧ GoodD d 3 else rg = []) ∧ okL placed kids
def okL (placed : Bool) : List PT → Prop
 | [] => True
 | t :: r => t.ok placed ∧ okL placed r
end
mutual
def PT.np : PT → PT
 | .num _ s => .num 0 s
 | .name _ s => .name 0 s
 | .node _ k nm rg kids => .node 0 k nm rg (npL kids)
def npL : List PT → List PT
 | [] => []
 | t :: r => t.np :: npL r
end
def regT (rg : List UInt8) : List UInt8 := if rg = [] then [] else 32 :: rg
mutual
def PT.tidy : PT → List UInt8
 | .num _ s => s
 | .name _ s => s
 | .node _ k nm rg kids => 40 :: (k.bytes ++ (regT rg ++ (joinT k nm 0 (tidyL kids) ++ [41])))
def tidyL : List PT → List (List UInt8)
 | [] => []
 | t :: r => t.tidy :: tidyL r
end
def pieceK (k : Kw) (nm : List UInt8) (i : Nat) (x : List Tk) : List Tk := (if (k = .let_ ∧ i = 0) ∨ (k = .loop ∧ i = 1) then [⟨nm, 0, .nam⟩] else []) ++ x
def joinK (k : Kw) (nm : List UInt8) : Nat → List (List Tk) → List Tk
 | _, [] => []
 | i, x :: r => pieceK k nm i x ++ joinK k nm (i + 1) r
def regK (rg : List UInt8) : List Tk := if rg = [] then [] else [⟨rg, 0, .reg⟩]
mutual
def PT.tkz : PT → List Tk
 | .num _ s => [⟨s, 0, .num⟩]
 | .name _ s => [⟨s, 0, .nam⟩]
 | .node _ k nm rg kids => ⟨[40], 0, .opn⟩ :: ⟨k.bytes, 0, .kw k⟩ :: (regK rg ++ (joinK k nm 0 (tkzL kids) ++ [⟨[41], 0, .cls⟩]))
def tkzL : List PT → List (List Tk)
 | [] => []
 | t :: r => t.tkz :: tkzL r
end
theorem stop_join (k : Kw) (nm : List UInt8) (i : Nat) (l : List (List UInt8)) (r : List UInt8) : Stop (joinT k nm i l ++ (41 :: r)) := by
 cases l with
 | nil => exact stop_close r
 | cons x l =>
  unfold joinT pieceT
  split
  ·exact stop_blank _
  ·exact stop_blank _
mutual
theorem tidy_sk {placed : Bool} : ∀ (e : PT), e.ok placed → ∀ r, Stop r → sk (e.tidy ++ r) = e.tkz ++ sk r
 | .num _ s, h, r, hr => sk_num s r (by simpa only [PT.ok] using h) hr
 | .name _ s, h, r, hr => sk_name s r (by simpa only [PT.ok] using h) hr
 | .node _ k nm rg kids, h, r, hr => by
  simp only [PT.ok] at h
  obtain ⟨_, _, hn, hg, hk⟩ := h
  have hj := tidyL_sk (placed := placed) kids hk k nm (fun hx => by rw [if_pos hx] at hn; exact hn) 0 r
  simp only [PT.tidy, PT.tkz, List.cons_append, List.append_assoc, List.nil_append]
  rw [sk_opn, sk_kw, List.cons.injEq, List.cons.injEq]
  ·refine ⟨rfl, rfl, ?_⟩
   unfold regT regK
   split
   ·exact hj
   ·rename_i e
    split at hg
    ·obtain ⟨d, rfl, hd⟩ := hg
     simp only [List.cons_append]
     rw [sk_sp, sk_reg d _ hd (stop_join _ _ _ _ _), hj]; rfl
    ·exact absurd hg e
  ·unfold regT
   split
   ·exact stop_join _ _ _ _ _
   ·exact stop_blank _
theorem tidyL_sk {placed : Bool} : ∀ (kids : List PT), okL placed kids → ∀ (k : Kw) (nm : List UInt8), ((k = .let_ ∨ k = .loop) → GoodN nm) → ∀ (i : Nat) (r : List UInt8), sk (joinT k nm i (tidyL kids) ++ (41 :: r)) = joinK k nm i (tkzL kids) ++ (⟨[41], 0, .cls⟩ :: sk r)
 | [], _, k, nm, _, i, r => by simp only [tidyL, tkzL, joinT, joinK, List.nil_append]; exact sk_cls r
 | t :: ts, h, k, nm, hn, i, r => by
  simp only [okL] at h
  have ih := tidyL_sk ts h.2 k nm hn (i + 1) r
  have iht := tidy_sk t h.1 (joinT k nm (i + 1) (tidyL ts) ++ (41 :: r)) (stop_join _ _ _ _ _)
  simp only [tidyL, tkzL, joinT, joinK, pieceT, pieceK, List.append_assoc]
  split
  ·rename_i hc
   have hg : GoodN nm := hn (hc.elim (fun h => Or.inl h.1) (fun h => Or.inr h.1))
   simp only [List.cons_append, List.nil_append]
   rw [sk_sp, sk_name nm _ hg (stop_blank _), sk_sp, iht, ih]
  ·simp only [List.cons_append, List.nil_append]
   rw [sk_sp, iht, ih]
end
mutual
theorem tkz_PE {placed : Bool} : ∀ (e : PT), e.ok placed → ∀ r, PE placed (e.tkz ++ r) e.np r
 | .num _ s, _, r => by simp only [PT.tkz, PT.np]; exact .num (t := ⟨s, 0, .num⟩) rfl
 | .name _ s, _, r => by simp only [PT.tkz, PT.np]; exact .name (t := ⟨s, 0, .nam⟩) rfl
 | .node _ k nm rg kids, h, r => by
  simp only [PT.ok] at h
  obtain ⟨hw, hl, hn, hg, hk⟩ := h
  have hks := okL_PE (placed := placed) kids hk
  have fin0 : ∀ (R : List Tk) (nm' rg' : List UInt8) (ks : List PT), PW placed (wantsK k placed) R nm' rg' ks r → R = regK rg ++ (joinK k nm 0 (tkzL kids) ++ [⟨[41], 0, .cls⟩]) ++ r → nm' = nm → rg' = rg → ks = npL kids → PE placed ((PT.node 0 k nm rg kids).tkz ++ r) (PT.node 0 k nm rg kids).np r := by
   rintro R nm' rg' ks hp rfl rfl rfl rfl
   simp only [PT.tkz, PT.np, List.cons_append]
   exact .node (t := ⟨[40], 0, .opn⟩) (u := ⟨k.bytes, 0, .kw k⟩) rfl rfl hw hp
  cases k with
  | let_ =>
   match kids, hl, hks, fin0 with
   | [a, b], _, hks, fin0 =>
    simp only [wantsK] at fin0
    simp only [true_or, if_true] at hn
    rw [if_neg (by simp)] at hg
    subst hg
    exact fin0 _ _ _ _ (.name (t := ⟨nm, 0, .nam⟩) rfl (.e (hks a (by simp) _) (.e (hks b (by simp) _) (.close (t := ⟨[41], 0, .cls⟩) rfl .nil)))) (by simp [regK, tkzL, joinK, pieceK]) rfl rfl rfl
  | loop =>
   match kids, hl, hks, fin0 with
   | [a, b, c], _, hks, fin0 =>
    simp only [wantsK] at fin0
    rw [if_neg (by simp)] at hg
    subst hg
    exact fin0 _ _ _ _ (.e (hks a (by simp) _) (.name (t := ⟨nm, 0, .nam⟩) rfl (.e (hks b (by simp) _) (.e (hks c (by simp) _) (.close (t := ⟨[41], 0, .cls⟩) rfl .nil))))) (by simp [regK, tkzL, joinK, pieceK]) rfl rfl rfl
  | if_ =>
   match kids, hl, hks, fin0 with
   | [a, b, c], _, hks, fin0 =>
    simp only [wantsK] at fin0
    rw [if_neg (by simp)] at hg
    rw [if_neg (by decide)] at hn
    subst hg; subst hn
    exact fin0 _ _ _ _ (.e (hks a (by simp) _) (.e (hks b (by simp) _) (.e (hks c (by simp) _) (.close (t := ⟨[41], 0, .cls⟩) rfl .nil)))) (by simp [regK, tkzL, joinK, pieceK]) rfl rfl rfl
  | fst =>
   match kids, hl, hks, fin0 with
   | [a], _, hks, fin0 =>
    simp only [wantsK] at fin0
    rw [if_neg (by simp)] at hg
    rw [if_neg (by decide)] at hn
    subst hg; subst hn
    exact fin0 _ _ _ _ (.e (hks a (by simp) _) (.close (t := ⟨[41], 0, .cls⟩) rfl .nil)) (by simp [regK, tkzL, joinK, pieceK]) rfl rfl rfl
  | snd =>
   match kids, hl, hks, fin0 with
   | [a], _, hks, fin0 =>
    simp only [wantsK] at fin0
    rw [if_neg (by simp)] at hg
    rw [if_neg (by decide)] at hn
    subst hg; subst hn
    exact fin0 _ _ _ _ (.e (hks a (by simp) _) (.close (t := ⟨[41], 0, .cls⟩) rfl .nil)) (by simp [regK, tkzL, joinK, pieceK]) rfl rfl rfl
  | add =>
   match kids, hl, hks, fin0 with
   | [a, b], _, hks, fin0 =>
    simp only [wantsK] at fin0
    rw [if_neg (by simp)] at hg
    rw [if_neg (by decide)] at hn
    subst hg; subst hn
    exact fin0 _ _ _ _ (.e (hks a (by simp) _) (.e (hks b (by simp) _) (.close (t := ⟨[41], 0, .cls⟩) rfl .nil))) (by simp [regK, tkzL, joinK, pieceK]) rfl rfl rfl
  | sub =>
   match kids, hl, hks, fin0 with
   | [a, b], _, hks, fin0 =>
    simp only [wantsK] at fin0
    rw [if_neg (by simp)] at hg
    rw [if_neg (by decide)] at hn
    subst hg; subst hn
    exact fin0 _ _ _ _ (.e (hks a (by simp) _) (.e (hks b (by simp) _) (.close (t := ⟨[41], 0, .cls⟩) rfl .nil))) (by simp [regK, tkzL, joinK, pieceK]) rfl rfl rfl
  | less =>
   match kids, hl, hks, fin0 with
   | [a, b], _, hks, fin0 =>
    simp only [wantsK] at fin0
    rw [if_neg (by simp)] at hg
    rw [if_neg (by decide)] at hn
    subst hg; subst hn
    exact fin0 _ _ _ _ (.e (hks a (by simp) _) (.e (hks b (by simp) _) (.close (t := ⟨[41], 0, .cls⟩) rfl .nil))) (by simp [regK, tkzL, joinK, pieceK]) rfl rfl rfl
  | pair =>
   match kids, hl, hks, fin0 with
   | [a, b], _, hks, fin0 =>
    rw [if_neg (by decide)] at hn
    subst hn
    cases placed with
    | false =>
     simp only [wantsK] at fin0
     rw [if_neg (by simp)] at hg
     subst hg
     exact fin0 _ _ _ _ (.e (hks a (by simp) _) (.e (hks b (by simp) _) (.close (t := ⟨[41], 0, .cls⟩) rfl .nil))) (by simp [regK, tkzL, joinK, pieceK]) rfl rfl rfl
    | true =>
     simp only [wantsK] at fin0
     rw [if_pos (by simp)] at hg
     obtain ⟨d, rfl, hd⟩ := hg
     exact fin0 _ _ _ _ (.region (t := ⟨35 :: d, 0, .reg⟩) rfl (.e (hks a (by simp) _) (.e (hks b (by simp) _) (.close (t := ⟨[41], 0, .cls⟩) rfl .nil)))) (by simp [regK, tkzL, joinK, pieceK]) rfl rfl rfl
  | new =>
   match kids, hl, hks, fin0 with
   | [a], _, hks, fin0 =>
    rw [if_neg (by decide)] at hn
    subst hn
    cases placed with
    | false => exact absurd rfl hw
    | true =>
     simp only [wantsK] at fin0
     rw [if_pos (by simp)] at hg
     obtain ⟨d, rfl, hd⟩ := hg
     exact fin0 _ _ _ _ (.region (t := ⟨35 :: d, 0, .reg⟩) rfl (.e (hks a (by simp) _) (.close (t := ⟨[41], 0, .cls⟩) rfl .nil))) (by simp [regK, tkzL, joinK, pieceK]) rfl rfl rfl
theorem okL_PE {placed : Bool} : ∀ (kids : List PT), okL placed kids → ∀ x ∈ kids, ∀ r, PE placed (x.tkz ++ r) x.np r
 | [], _, x, hx, _ => by simp at hx
 | t :: ts, h, x, hx, r => by
  simp only [okL] at h
  rcases List.mem_cons.1 hx with hx | hx
  ·rw [hx]; exact tkz_PE t h.1 r
  ·exact okL_PE ts h.2 x hx r
end
theorem z_cons {l : List Tk} {t : Tk} {r : List Tk} (h : l.map Tk.z = t :: r) : ∃ t2 r2, l = t2 :: r2 ∧ t2.c = t.c ∧ t2.s = t.s ∧ r2.map Tk.z = r := by
 cases l with
 | nil => simp at h
 | cons a l =>
  simp only [List.map_cons, List.cons.injEq] at h
  exact ⟨a, l, rfl, by rw [← h.1]; rfl, by rw [← h.1]; rfl, h.2⟩
mutual
theorem PE.unz {placed : Bool} : ∀ {l : List Tk} {e : PT} {r : List Tk}, PE placed l e r → ∀ l2, l2.map Tk.z = l → ∃ e2 r2, PE placed l2 e2 r2 ∧ e2.np = e.np ∧ r2.map Tk.z = r
 | _, _, _, .num h, l2, h2 => by
  obtain ⟨t2, r2, rfl, hc, hs, hr⟩ := z_cons h2
  exact ⟨_, r2, .num (hc.trans h), by simp only [PT.np, hs], hr⟩
 | _, _, _, .name h, l2, h2 => by
  obtain ⟨t2, r2, rfl, hc, hs, hr⟩ := z_cons h2
  exact ⟨_, r2, .name (hc.trans h), by simp only [PT.np, hs], hr⟩
 | _, _, _, .node h1 h3 h4 h5, l2, h2 => by
  obtain ⟨t2, r2, rfl, hc, _, hr⟩ := z_cons h2
  obtain ⟨u2, r3, rfl, hc3, _, hr3⟩ := z_cons hr
  obtain ⟨ks, r4, hp, hks, hr4⟩ := PW.unz h5 r3 hr3
  exact ⟨_, r4, .node (hc.trans h1) (hc3.trans h3) h4 hp, by simp only [PT.np, hks], hr4⟩
theorem PW.unz {placed : Bool} : ∀ {ws : List Wt} {l : List Tk} {nm rg : List UInt8} {kids : List PT} {r : List Tk}, PW placed ws l nm rg kids r → ∀ l2, l2.map Tk.z = l → ∃ kids2 r2, PW placed ws l2 nm rg kids2 r2 ∧ npL kids2 = npL kids ∧ r2.map Tk.z = r
 | _, _, _, _, _, _, .nil, l2, h2 => ⟨[], l2, .nil, rfl, h2⟩
 | _, _, _, _, _, _, .close h h1, l2, h2 => by
  obtain ⟨t2, r2, rfl, hc, _, hr⟩ := z_cons h2
  obtain ⟨ks, r4, hp, hks, hr4⟩ := PW.unz h1 r2 hr
  exact ⟨ks, r4, .close (hc.trans h) hp, hks, hr4⟩
 | _, _, _, _, _, _, .name h h1, l2, h2 => by
  obtain ⟨t2, r2, rfl, hc, hs, hr⟩ := z_cons h2
  obtain ⟨ks, r4, hp, hks, hr4⟩ := PW.unz h1 r2 hr
  exact ⟨ks, r4, by rw [← hs]; exact .name (hc.trans h) hp, hks, hr4⟩
 | _, _, _, _, _, _, .region h h1, l2, h2 => by
  obtain ⟨t2, r2, rfl, hc, hs, hr⟩ := z_cons h2
  obtain ⟨ks, r4, hp, hks, hr4⟩ := PW.unz h1 r2 hr
  exact ⟨ks, r4, by rw [← hs]; exact .region (hc.trans h) hp, hks, hr4⟩
 | _, _, _, _, _, _, .e h h1, l2, h2 => by
  obtain ⟨e2, r2, hp, he, hr⟩ := PE.unz h l2 h2
  obtain ⟨ks, r4, hp4, hks, hr4⟩ := PW.unz h1 r2 hr
  exact ⟨_, r4, .e hp hp4, by simp only [npL, he, hks], hr4⟩
end
mutual
theorem np_np : ∀ e : PT, e.np.np = e.np
 | .num _ _ => rfl
 | .name _ _ => rfl
 | .node _ _ _ _ kids => by simp only [PT.np, npL_np kids]
theorem npL_np : ∀ l : List PT, npL (npL l) = npL l
 | [] => rfl
 | t :: r => by simp only [npL, np_np t, npL_np r]
end
theorem tidy_PE {placed : Bool} (e : PT) (h : e.ok placed) : ∃ e2, PE placed (tokens e.tidy) e2 [] ∧ e2.np = e.np := by
 have hs := tidy_sk e h [] stop_nil
 rw [List.append_nil, sk_nil] at hs
 obtain ⟨e2, r2, hp, he, hr⟩ := (tkz_PE e h []).unz (tokens e.tidy) hs
 have : r2 = [] := by simpa using hr
 subst this
 exact ⟨e2, hp, he.trans (np_np e)⟩
theorem sk_PE {placed : Bool} (e : PT) (h : e.ok placed) (l : List UInt8) (hl : sk l = e.tkz) : ∃ e2, PE placed (tokens l) e2 [] ∧ e2.np = e.np := by
 obtain ⟨e2, r2, hp, he, hr⟩ := (tkz_PE e h []).unz (tokens l) (by rw [List.append_nil]; exact hl)
 have : r2 = [] := by simpa using hr
 subst this
 exact ⟨e2, hp, he.trans (np_np e)⟩
inductive KE where
 | num (n : Nat)
 | var (n : Nat)
 | n1 (k : Kw) (a : KE)
 | n2 (k : Kw) (n : Nat) (a b : KE)
 | n3 (k : Kw) (n : Nat) (a b c : KE)
def pickF (c : Int) (n : Nat) : Nat := (Int.tmod (if c < 0 then -(c + 1) else c) n).toNat
theorem pickF_lt (c : Int) (n : Nat) (h : 0 < n) : pickF c n < n := by
 unfold pickF
 have h1 : 0 ≤ (if c < 0 then -(c + 1) else c) := by split <;> omega
 have := Int.tmod_lt_of_pos (if c < 0 then -(c + 1) else c) (show (0 : Int) < n by omega)
 have := Int.tmod_nonneg (n : Int) h1
 omega
structure MkS where
 at_ : Nat
 left : Nat
 vars : List Nat
def nextF (raw : List Int) (n : Nat) (s : MkS) : Nat × MkS :=
 if raw = [] then (0, s) else (pickF (raw.getD (s.at_ % raw.length) 0) n, { s with at_ := s.at_ + 1 })
theorem nextF_lt (raw : List Int) (n : Nat) (s : MkS) (h : 0 < n) : (nextF raw n s).1 < n := by
 unfold nextF; split
 ·exact h
 ·exact pickF_lt _ n h
theorem nextF_st (raw : List Int) (n : Nat) (s : MkS) : (nextF raw n s).2.left = s.left ∧ (nextF raw n s).2.vars = s.vars ∧ s.at_ ≤ (nextF raw n s).2.at_ ∧ (nextF raw n s).2.at_ ≤ s.at_ + 1 := by
 unfold nextF; split
 ·exact ⟨rfl, rfl, Nat.le_refl _, Nat.le_succ _⟩
 ·exact ⟨rfl, rfl, Nat.le_succ _, Nat.le_refl _⟩
def idxs (vars : List Nat) (t n : Nat) : List Nat := (List.range n).filter (fun i => vars.getD i 9 == t)
def namedF (vars : List Nat) (t k : Nat) : Option KE :=
 if (idxs vars t vars.length) = [] then none else some (.var ((idxs vars t vars.length).getD (k % (idxs vars t vars.length).length) 0))
def fT (t : Nat) : Nat := if t = 2 ∨ t = 4 then 1 else 0
def sT (t : Nat) : Nat := if t = 3 ∨ t = 4 then 1 else 0
def fI (t : Nat) : Int := if t = 0 then -1 else fT t
def sI (t : Nat) : Int := if t = 0 then -1 else sT t
def leafF (raw : List Int) : Nat → Nat → MkS → KE × MkS
 | 0, _, s => (.num 0, s)
 | f + 1, t, s =>
  let x := nextF raw 7 s
  match (if 1 < x.1 then namedF x.2.vars t x.1 else none) with
  | some y => (y, x.2)
  | none =>
   if t = 0 then (.num (nextF raw 60 x.2).1, (nextF raw 60 x.2).2)
   else
    let a := leafF raw f (fT t) x.2
    let b := leafF raw f (sT t) a.2
    (.n2 .pair 0 a.1 b.1, b.2)
def takeG (t k : Nat) : Nat → Nat → Option (Kw × Nat)
 | _, 0 => none
 | i, n + 1 =>
  if (i + k) / 5 % 2 = 1 then (if sI ((i + k) % 5) = t then some (.snd, (i + k) % 5) else takeG t k (i + 1) n)
  else (if fI ((i + k) % 5) = t then some (.fst, (i + k) % 5) else takeG t k (i + 1) n)
def opK (n : Nat) : Kw := if n = 0 then .add else if n = 1 then .sub else .less
def bindF (g : Nat → MkS → KE × MkS) (v t : Nat) (s : MkS) : KE × MkS :=
 let x := g t { s with vars := s.vars ++ [v] }
 (x.1, { x.2 with vars := x.2.vars.take s.vars.length })
def makeF (raw : List Int) : Nat → Nat → MkS → KE × MkS
 | 0, t, s => leafF raw 3 t s
 | f + 1, t, s =>
  if s.left = 0 then leafF raw 3 t s else
  let x := nextF raw 9 { s with left := s.left - 1 }
  if x.1 = 0 then
   let v := nextF raw 5 x.2
   let a := makeF raw f v.1 v.2
   let b := bindF (makeF raw f) v.1 t a.2
   (.n2 .let_ b.2.vars.length a.1 b.1, b.2)
  else if x.1 = 1 then
   let a := makeF raw f 0 x.2
   let b := makeF raw f t a.2
   let c := makeF raw f t b.2
   (.n3 .if_ 0 a.1 b.1 c.1, c.2)
  else if x.1 = 2 ∨ x.1 = 3 then
   let k := nextF raw 4 x.2
   match takeG t k.1 0 10 with
   | some q => (.n1 q.1 (makeF raw f q.2 k.2).1, (makeF raw f q.2 k.2).2)
   | none => leafF raw 3 t k.2
  else if x.1 = 4 then
   let n := nextF raw 4 x.2
   let a := makeF raw f t n.2
   let b := bindF (makeF raw f) t t a.2
   (.n3 .loop b.2.vars.length (.num n.1) a.1 b.1, b.2)
  else if x.1 < 8 then
   if t = 0 then
    let o := nextF raw 3 x.2
    let a := makeF raw f 0 o.2
    let b := makeF raw f 0 a.2
    (.n2 (opK o.1) 0 a.1 b.1, b.2)
   else
    let a := makeF raw f (fT t) x.2
    let b := makeF raw f (sT t) a.2
    (.n2 .pair 0 a.1 b.1, b.2)
  else leafF raw 3 t x.2
def buildF (t : Int) (raw : List Int) : KE := (makeF raw 25 (pickF t 5) ⟨0, 24, []⟩).1
inductive KT : List Nat → KE → Nat → Prop
 | num {vs : List Nat} {n : Nat} (h : n ≤ 59) : KT vs (.num n) 0
 | var {vs : List Nat} {n t : Nat} (h : vs[n]? = some t) : KT vs (.var n) t
 | let_ {vs : List Nat} {a b : KE} {v t : Nat} (hv : v < 5) (hl : vs.length < 100) (ha : KT vs a v) (hb : KT (vs ++ [v]) b t) : KT vs (.n2 .let_ vs.length a b) t
 | if_ {vs : List Nat} {a b c : KE} {t : Nat} (ha : KT vs a 0) (hb : KT vs b t) (hc : KT vs c t) : KT vs (.n3 .if_ 0 a b c) t
 | loop {vs : List Nat} {a b c : KE} {t : Nat} (hl : vs.length < 100) (ha : KT vs a 0) (hb : KT vs b t) (hc : KT (vs ++ [t]) c t) : KT vs (.n3 .loop vs.length a b c) t
 | pair {vs : List Nat} {a b : KE} {t : Nat} (h0 : t ≠ 0) (ht : t < 5) (ha : KT vs a (fT t)) (hb : KT vs b (sT t)) : KT vs (.n2 .pair 0 a b) t
 | fst {vs : List Nat} {a : KE} {p : Nat} (h0 : p ≠ 0) (hp : p < 5) (ha : KT vs a p) : KT vs (.n1 .fst a) (fT p)
 | snd {vs : List Nat} {a : KE} {p : Nat} (h0 : p ≠ 0) (hp : p < 5) (ha : KT vs a p) : KT vs (.n1 .snd a) (sT p)
 | two {vs : List Nat} {k : Kw} {a b : KE} (hk : k = .add ∨ k = .sub ∨ k = .less) (ha : KT vs a 0) (hb : KT vs b 0) : KT vs (.n2 k 0 a b) 0
def KE.prs : KE → Nat
 | .num _ => 0
 | .var _ => 0
 | .n1 _ a => a.prs
 | .n2 k _ a b => (if k = .pair then 1 else 0) + a.prs + b.prs
 | .n3 _ _ a b c => a.prs + b.prs + c.prs
def KE.cnt : KE → Nat
 | .num _ => 1
 | .var _ => 1
 | .n1 _ a => 1 + a.cnt
 | .n2 _ _ a b => 1 + a.cnt + b.cnt
 | .n3 _ _ a b c => 1 + a.cnt + b.cnt + c.cnt
def KE.len : KE → Nat
 | .num _ => 3
 | .var _ => 3
 | .n1 _ a => 6 + a.len
 | .n2 k _ a b => (if k = .let_ then 11 else 8) + a.len + b.len
 | .n3 k _ a b c => (if k = .loop then 13 else 7) + a.len + b.len + c.len
def lenW (t : Nat) : Nat := if t = 0 then 3 else if t = 1 then 14 else if t = 4 then 36 else 25
def prW (t : Nat) : Nat := if t = 0 then 0 else if t = 1 then 1 else if t = 4 then 3 else 2
def cntW (t : Nat) : Nat := if t = 0 then 1 else if t = 1 then 3 else if t = 4 then 7 else 5
def atW (t : Nat) : Nat := if t = 0 then 2 else if t = 1 then 5 else if t = 4 then 11 else 8
structure MkO (t : Nat) (s : MkS) (y : KE × MkS) : Prop where
 ty : KT s.vars y.1 t
 vars : y.2.vars = s.vars
 left : y.2.left ≤ s.left
 len : y.1.len + 53 * y.2.left ≤ lenW t + 53 * s.left
 prs : y.1.prs + 3 * y.2.left ≤ prW t + 3 * s.left
 cnt : y.1.cnt + 9 * y.2.left ≤ cntW t + 9 * s.left
 at_ : y.2.at_ + 40 * y.2.left ≤ s.at_ + atW t + 40 * s.left
 at' : s.at_ ≤ y.2.at_
theorem namedF_ty {vars : List Nat} {t k : Nat} {y : KE} (h : namedF vars t k = some y) : ∃ n, y = .var n ∧ vars[n]? = some t ∧ n < vars.length := by
 unfold namedF at h
 split at h
 ·cases h
 ·rename_i hne
  simp only [Option.some.injEq] at h
  have hpos : 0 < (idxs vars t vars.length).length := List.length_pos_iff.2 hne
  have hlt := Nat.mod_lt k hpos
  refine ⟨_, h.symm, ?_⟩
  have hmem : (idxs vars t vars.length).getD (k % (idxs vars t vars.length).length) 0 ∈ idxs vars t vars.length := by
   rw [List.getD_eq_getElem?_getD, List.getElem?_eq_getElem hlt, Option.getD_some]; exact List.getElem_mem hlt
  generalize (idxs vars t vars.length).getD (k % (idxs vars t vars.length).length) 0 = n at hmem
  unfold idxs at hmem
  rw [List.mem_filter, List.mem_range] at hmem
  have e := hmem.2
  rw [List.getD_eq_getElem?_getD, List.getElem?_eq_getElem hmem.1, Option.getD_some] at e
  rw [List.getElem?_eq_getElem hmem.1]
  exact ⟨by simpa using e, hmem.1⟩
theorem W_pos {t : Nat} : 3 ≤ lenW t ∧ 1 ≤ cntW t ∧ 2 ≤ atW t := by
 unfold lenW cntW atW
 by_cases h0 : t = 0
 ·subst h0; decide
 ·by_cases h1 : t = 1
  ·subst h1; decide
  ·by_cases h4 : t = 4
   ·subst h4; decide
   ·simp [h0, h1, h4]
theorem W_pair {t : Nat} (ht : t < 5) (h0 : t ≠ 0) : 8 + lenW (fT t) + lenW (sT t) = lenW t ∧ 1 + prW (fT t) + prW (sT t) = prW t ∧ 1 + cntW (fT t) + cntW (sT t) = cntW t ∧ 1 + atW (fT t) + atW (sT t) = atW t ∧ fT t < 5 ∧ sT t < 5 := by
 have h : ∀ t < 5, t ≠ 0 → (8 + lenW (fT t) + lenW (sT t) = lenW t ∧ 1 + prW (fT t) + prW (sT t) = prW t ∧ 1 + cntW (fT t) + cntW (sT t) = cntW t ∧ 1 + atW (fT t) + atW (sT t) = atW t ∧ fT t < 5 ∧ sT t < 5) := by decide
 exact h t ht h0
def dep (t : Nat) : Nat := if t = 0 then 0 else if t = 1 then 1 else 2
theorem dep_parts {t : Nat} (ht : t < 5) (h0 : t ≠ 0) : dep (fT t) < dep t ∧ dep (sT t) < dep t := by
 have h : ∀ t < 5, t ≠ 0 → (dep (fT t) < dep t ∧ dep (sT t) < dep t) := by decide
 exact h t ht h0
theorem leafF_ok (raw : List Int) : ∀ (f t : Nat) (s : MkS), t < 5 → dep t < f → MkO t s (leafF raw f t s)
 | 0, _, _, _, h => by omega
 | f + 1, t, s, ht, hd => by
  simp only [leafF]
  have hn := nextF_st raw 7 s
  generalize nextF raw 7 s = x at hn
  have hW := @W_pos t
  split
  ·rename_i y hy
   split at hy
   ·obtain ⟨n, rfl, h1, _⟩ := namedF_ty hy
    rw [hn.2.1] at h1
    refine ⟨.var h1, hn.2.1, by simp only; omega, ?_, ?_, ?_, ?_, ?_⟩ <;> simp only [KE.len, KE.prs, KE.cnt, hn.1] <;> omega
   ·cases hy
  ·split
   ·rename_i h0
    subst h0
    have hm := nextF_st raw 60 x.2
    have hl := nextF_lt raw 60 x.2 (by omega)
    generalize nextF raw 60 x.2 = z at hm hl
    refine ⟨.num (by omega), by rw [hm.2.1, hn.2.1], by simp only; omega, ?_, ?_, ?_, ?_, ?_⟩ <;> simp only [KE.len, KE.prs, KE.cnt, hm.1, hn.1] <;> omega
   ·rename_i h0
    have hp := W_pair ht h0
    have hdp := dep_parts ht h0
    have ha := leafF_ok raw f (fT t) x.2 hp.2.2.2.2.1 (by omega)
    generalize leafF raw f (fT t) x.2 = a at ha
    have hb := leafF_ok raw f (sT t) a.2 hp.2.2.2.2.2 (by omega)
    generalize leafF raw f (sT t) a.2 = b at hb
    obtain ⟨a1, a2, a3, a4, a5, a6, a7, a8⟩ := ha
    obtain ⟨b1, b2, b3, b4, b5, b6, b7, b8⟩ := hb
    rw [a2, hn.2.1] at b1 b2
    rw [hn.2.1] at a1
    refine ⟨.pair h0 ht a1 b1, b2, by simp only; omega, ?_, ?_, ?_, ?_, ?_⟩ <;> simp only [KE.len, KE.prs, KE.cnt, if_true] <;> first | omega | (rw [if_neg (by decide)]; omega)
theorem takeG_ty : ∀ t < 5, ∀ k < 4, ∀ q, takeG t k 0 10 = some q → q.2 ≠ 0 ∧ q.2 < 5 ∧ ((q.1 = .fst ∧ fT q.2 = t) ∨ (q.1 = .snd ∧ sT q.2 = t)) ∧ lenW q.2 ≤ lenW t + 40 ∧ prW q.2 ≤ prW t + 3 ∧ cntW q.2 ≤ cntW t + 7 ∧ atW q.2 ≤ atW t + 10 := by
 have h : ∀ t < 5, ∀ k < 4, (takeG t k 0 10).all (fun q => decide (q.2 ≠ 0 ∧ q.2 < 5 ∧ ((q.1 = .fst ∧ fT q.2 = t) ∨ (q.1 = .snd ∧ sT q.2 = t)) ∧ lenW q.2 ≤ lenW t + 40 ∧ prW q.2 ≤ prW t + 3 ∧ cntW q.2 ≤ cntW t + 7 ∧ atW q.2 ≤ atW t + 10)) = true := by decide
 intro t ht k hk q hq
 have := h t ht k hk
 rw [hq] at this
 simpa only [Option.all_some, decide_eq_true_eq] using this
theorem W_le {t : Nat} : lenW t ≤ 36 ∧ prW t ≤ 3 ∧ cntW t ≤ 7 ∧ atW t ≤ 11 := by
 unfold lenW prW cntW atW
 by_cases h0 : t = 0
 ·subst h0; decide
 ·by_cases h1 : t = 1
  ·subst h1; decide
  ·by_cases h4 : t = 4
   ·subst h4; decide
   ·simp [h0, h1, h4]
theorem bindF_ok {g : Nat → MkS → KE × MkS} {v t : Nat} {s : MkS} (h : MkO t { s with vars := s.vars ++ [v] } (g t { s with vars := s.vars ++ [v] })) :
  KT (s.vars ++ [v]) (bindF g v t s).1 t ∧ (bindF g v t s).2.vars = s.vars ∧ (bindF g v t s).2.left ≤ s.left ∧ (bindF g v t s).1.len + 53 * (bindF g v t s).2.left ≤ lenW t + 53 * s.left ∧ (bindF g v t s).1.prs + 3 * (bindF g v t s).2.left ≤ prW t + 3 * s.left ∧ (bindF g v t s).1.cnt + 9 * (bindF g v t s).2.left ≤ cntW t + 9 * s.left ∧ (bindF g v t s).2.at_ + 40 * (bindF g v t s).2.left ≤ s.at_ + atW t + 40 * s.left ∧ s.at_ ≤ (bindF g v t s).2.at_ := by
 unfold bindF
 refine ⟨h.ty, ?_, h.left, h.len, h.prs, h.cnt, h.at_, h.at'⟩
 simp only [h.vars, List.take_left]
set_option maxHeartbeats 1000000 in
theorem makeF_ok (raw : List Int) : ∀ (f t : Nat) (s : MkS), t < 5 → s.left < f → s.vars.length + s.left ≤ 100 → MkO t s (makeF raw f t s)
 | 0, _, _, _, h, _ => by omega
 | f + 1, t, s, ht, hf, hv => by
  simp only [makeF]
  have hW := @W_le t
  have hWp := @W_pos t
  split
  ·exact leafF_ok raw 3 t s ht (by unfold dep; split <;> (try split) <;> omega)
  rename_i hl0
  have hn := nextF_st raw 9 { s with left := s.left - 1 }
  generalize nextF raw 9 { s with left := s.left - 1 } = x at hn
  simp only at hn
  obtain ⟨n1, n2, n3, n4⟩ := hn
  split
  ·have hm := nextF_st raw 5 x.2
   have hm5 := nextF_lt raw 5 x.2 (by omega)
   generalize nextF raw 5 x.2 = v at hm hm5
   obtain ⟨m1, m2, m3, m4⟩ := hm
   have ha := makeF_ok raw f v.1 v.2 hm5 (by omega) (by rw [m2, n2]; omega)
   generalize makeF raw f v.1 v.2 = a at ha
   obtain ⟨a1, a2, a3, a4, a5, a6, a7, a8⟩ := ha
   have hb := bindF_ok (v := v.1) (makeF_ok raw f t { a.2 with vars := a.2.vars ++ [v.1] } ht (by simp only; omega) (by simp only [List.length_append, List.length_singleton, a2, m2, n2]; omega))
   generalize bindF (makeF raw f) v.1 t a.2 = b at hb
   obtain ⟨b1, b2, b3, b4, b5, b6, b7, b8⟩ := hb
   rw [a2, m2, n2] at b1 b2
   rw [m2, n2] at a1
   have hWv := @W_le v.1
   rw [b2]
   refine ⟨.let_ hm5 (by omega) a1 b1, b2, by simp only; omega, ?_, ?_, ?_, ?_, ?_⟩ <;> simp only [KE.len, KE.prs, KE.cnt, if_true] <;> first | omega | (rw [if_neg (by decide)]; omega)
  split
  ·have ha := makeF_ok raw f 0 x.2 (by omega) (by omega) (by rw [n2]; omega)
   generalize makeF raw f 0 x.2 = a at ha
   obtain ⟨a1, a2, a3, a4, a5, a6, a7, a8⟩ := ha
   have hb := makeF_ok raw f t a.2 ht (by omega) (by rw [a2, n2]; omega)
   generalize makeF raw f t a.2 = b at hb
   obtain ⟨b1, b2, b3, b4, b5, b6, b7, b8⟩ := hb
   have hc := makeF_ok raw f t b.2 ht (by omega) (by rw [b2, a2, n2]; omega)
   generalize makeF raw f t b.2 = c at hc
   obtain ⟨c1, c2, c3, c4, c5, c6, c7, c8⟩ := hc
   rw [b2, a2, n2] at c1 c2
   rw [a2, n2] at b1
   rw [n2] at a1
   have e0 : lenW 0 = 3 ∧ prW 0 = 0 ∧ cntW 0 = 1 ∧ atW 0 = 2 := by decide
   refine ⟨.if_ a1 b1 c1, c2, by simp only; omega, ?_, ?_, ?_, ?_, ?_⟩ <;> simp only [KE.len, KE.prs, KE.cnt] <;> first | omega | (rw [if_neg (by decide)]; omega)
  split
  ·have hm := nextF_st raw 4 x.2
   have hm4 := nextF_lt raw 4 x.2 (by omega)
   generalize nextF raw 4 x.2 = k at hm hm4
   obtain ⟨m1, m2, m3, m4⟩ := hm
   split
   ·rename_i q hq
    have hq' := takeG_ty t ht k.1 hm4 q hq
    have ha := makeF_ok raw f q.2 k.2 hq'.2.1 (by omega) (by rw [m2, n2]; omega)
    generalize makeF raw f q.2 k.2 = a at ha
    obtain ⟨a1, a2, a3, a4, a5, a6, a7, a8⟩ := ha
    rw [m2, n2] at a1 a2
    have hty : KT s.vars (.n1 q.1 a.1) t := by
     rcases hq'.2.2.1 with ⟨e1, e2⟩ | ⟨e1, e2⟩
     ·rw [e1, ← e2]; exact .fst hq'.1 hq'.2.1 a1
     ·rw [e1, ← e2]; exact .snd hq'.1 hq'.2.1 a1
    refine ⟨hty, a2, by simp only; omega, ?_, ?_, ?_, ?_, ?_⟩ <;> simp only [KE.len, KE.prs, KE.cnt] <;> omega
   ·have ha := leafF_ok raw 3 t k.2 ht (by unfold dep; split <;> (try split) <;> omega)
    generalize leafF raw 3 t k.2 = a at ha
    obtain ⟨a1, a2, a3, a4, a5, a6, a7, a8⟩ := ha
    rw [m2, n2] at a1 a2
    exact ⟨a1, a2, by omega, by omega, by omega, by omega, by omega, by omega⟩
  split
  ·have hm := nextF_st raw 4 x.2
   have hm4 := nextF_lt raw 4 x.2 (by omega)
   generalize nextF raw 4 x.2 = n at hm hm4
   obtain ⟨m1, m2, m3, m4⟩ := hm
   have ha := makeF_ok raw f t n.2 ht (by omega) (by rw [m2, n2]; omega)
   generalize makeF raw f t n.2 = a at ha
   obtain ⟨a1, a2, a3, a4, a5, a6, a7, a8⟩ := ha
   have hb := bindF_ok (v := t) (makeF_ok raw f t { a.2 with vars := a.2.vars ++ [t] } ht (by simp only; omega) (by simp only [List.length_append, List.length_singleton, a2, m2, n2]; omega))
   generalize bindF (makeF raw f) t t a.2 = b at hb
   obtain ⟨b1, b2, b3, b4, b5, b6, b7, b8⟩ := hb
   rw [a2, m2, n2] at b1 b2
   rw [m2, n2] at a1
   rw [b2]
   refine ⟨.loop (by omega) (.num (by omega)) a1 b1, b2, by simp only; omega, ?_, ?_, ?_, ?_, ?_⟩ <;> simp only [KE.len, KE.prs, KE.cnt, if_true] <;> omega
  split
  ·split
   ·rename_i h0
    subst h0
    have hm := nextF_st raw 3 x.2
    generalize nextF raw 3 x.2 = o at hm
    obtain ⟨m1, m2, m3, m4⟩ := hm
    have ha := makeF_ok raw f 0 o.2 ht (by omega) (by rw [m2, n2]; omega)
    generalize makeF raw f 0 o.2 = a at ha
    obtain ⟨a1, a2, a3, a4, a5, a6, a7, a8⟩ := ha
    have hb := makeF_ok raw f 0 a.2 ht (by omega) (by rw [a2, m2, n2]; omega)
    generalize makeF raw f 0 a.2 = b at hb
    obtain ⟨b1, b2, b3, b4, b5, b6, b7, b8⟩ := hb
    rw [a2, m2, n2] at b1 b2
    rw [m2, n2] at a1
    have hk : opK o.1 = .add ∨ opK o.1 = .sub ∨ opK o.1 = .less := by unfold opK; split <;> (try split) <;> simp
    have hk1 : opK o.1 ≠ .let_ ∧ opK o.1 ≠ .pair := by rcases hk with h | h | h <;> rw [h] <;> decide
    have e0 : lenW 0 = 3 ∧ prW 0 = 0 ∧ cntW 0 = 1 ∧ atW 0 = 2 := by decide
    refine ⟨.two hk a1 b1, b2, by simp only; omega, ?_, ?_, ?_, ?_, ?_⟩ <;> simp only [KE.len, KE.prs, KE.cnt, if_neg hk1.1, if_neg hk1.2] <;> omega
   ·rename_i h0
    have hp := W_pair ht h0
    have ha := makeF_ok raw f (fT t) x.2 hp.2.2.2.2.1 (by omega) (by rw [n2]; omega)
    generalize makeF raw f (fT t) x.2 = a at ha
    obtain ⟨a1, a2, a3, a4, a5, a6, a7, a8⟩ := ha
    have hb := makeF_ok raw f (sT t) a.2 hp.2.2.2.2.2 (by omega) (by rw [a2, n2]; omega)
    generalize makeF raw f (sT t) a.2 = b at hb
    obtain ⟨b1, b2, b3, b4, b5, b6, b7, b8⟩ := hb
    rw [a2, n2] at b1 b2
    rw [n2] at a1
    refine ⟨.pair h0 ht a1 b1, b2, by simp only; omega, ?_, ?_, ?_, ?_, ?_⟩ <;> simp only [KE.len, KE.prs, KE.cnt, if_true] <;> first | omega | (rw [if_neg (by decide)]; omega)
  ·have ha := leafF_ok raw 3 t x.2 ht (by unfold dep; split <;> (try split) <;> omega)
   generalize leafF raw 3 t x.2 = a at ha
   obtain ⟨a1, a2, a3, a4, a5, a6, a7, a8⟩ := ha
   rw [n2] at a1 a2
   exact ⟨a1, a2, by omega, by omega, by omega, by omega, by omega, by omega⟩
theorem build_ok (t : Int) (raw : List Int) : KT [] (buildF t raw) (pickF t 5) ∧ (buildF t raw).len ≤ 1308 ∧ (buildF t raw).prs ≤ 75 ∧ (buildF t raw).cnt ≤ 223 := by
 have h := makeF_ok raw 25 (pickF t 5) ⟨0, 24, []⟩ (pickF_lt t 5 (by omega)) (by simp) (by simp)
 have hW := @W_le (pickF t 5)
 have h2 := h.len
 have h3 := h.prs
 have h4 := h.cnt
 simp only at h2 h3 h4
 exact ⟨h.ty, by show (makeF raw 25 (pickF t 5) ⟨0, 24, []⟩).1.len ≤ _; omega, by show (makeF raw 25 (pickF t 5) ⟨0, 24, []⟩).1.prs ≤ _; omega, by show (makeF raw 25 (pickF t 5) ⟨0, 24, []⟩).1.cnt ≤ _; omega⟩
open Go.RowKit
structure FrO (w w' : World) (yb : Nat) (nv nv' : Value) : Prop where
 size : w.heap.size ≤ w'.heap.size
 blk : ∀ k, k < w.heap.size → k ≠ yb → nv.ownBlock ≠ some k → w'.heap[k]? = w.heap[k]?
 n : ∀ g, nv'.ownBlock = some g → nv.ownBlock = some g ∨ w.heap.size ≤ g
theorem FrO.refl (w : World) (yb : Nat) (nv : Value) : FrO w w yb nv nv := ⟨Nat.le_refl _, fun _ _ _ _ => rfl, fun _ h => Or.inl h⟩
theorem FrO.trans {w w1 w2 : World} {yb : Nat} {nv nv1 nv2 : Value} (h : FrO w w1 yb nv nv1) (h' : FrO w1 w2 yb nv1 nv2) : FrO w w2 yb nv nv2 := by
 refine ⟨Nat.le_trans h.size h'.size, ?_, ?_⟩
 ·intro k hk hy hn
  rw [h'.blk k (Nat.lt_of_lt_of_le hk h.size) hy (fun e => by rcases h.n k e with e | e; exact hn e; omega)]
  exact h.blk k hk hy hn
 ·intro g hg
  rcases h'.n g hg with e | e
  ·exact h.n g e
  ·exact Or.inr (Nat.le_trans h.size e)
theorem FrO.below {w w' : World} (h : Below w.heap.size w w') (yb : Nat) (nv : Value) : FrO w w' yb nv nv := ⟨h.size, fun k hk _ _ => h.block k hk, fun _ h => Or.inl h⟩
theorem FrO.grown {w w' : World} {yb : Nat} (h : w.grownBy w' (some yb)) (nv : Value) : FrO w w' yb nv nv := ⟨h.size, fun k hk hy _ => h.block k hk (fun e => by cases e; exact hy rfl), fun _ h => Or.inl h⟩
theorem below_alZ {w W : World} (h : Below w.heap.size w W) (o : Obj) : Below w.heap.size w (W.alloc o) := h.alloc h.size o
theorem below_drewO (w : World) (m : Nat) : Below w.heap.size w (w.drewN m) := ⟨rfl, rfl, rfl, Nat.le_refl _, fun _ _ => rfl⟩
theorem FrO.setAt (w : World) (yb : Nat) (nv : Value) (m o : Nat) (x : Value) : FrO w ((w.drewN m).setCell ⟨yb, o, none⟩ x) yb nv nv := (FrO.below (below_drewO w m) _ _).trans (FrO.grown (gr_set (w.drewN m) ⟨yb, o, none⟩ _) _)
theorem FrO.set1 (w : World) (yb : Nat) (nv : Value) (o : Nat) (x : Value) : FrO w (w.setCell ⟨yb, o, none⟩ x) yb nv nv := FrO.grown (gr_set w ⟨yb, o, none⟩ _) _
theorem FrO.recast {w w' : World} {yb : Nat} {nv nv' nv2 : Value} (h : FrO w w' yb nv nv') (e : nv2.ownBlock = nv'.ownBlock) : FrO w w' yb nv nv2 := ⟨h.size, h.blk, fun g hg => h.n g (by rw [← e]; exact hg)⟩
structure ObIn (w0 w : World) (yb : Nat) (cs : Array Value) (T : TypeId) (nv : Value) (E : TypeId) (xs : List Value) : Prop where
 b0 : Below w0.heap.size w0 w
 hyb : w0.heap.size ≤ yb
 y : w.heap[yb]? = some (.cells cs T (0, 0))
 n : w.ownsRow w0.heap.size E 1 nv xs.length xs
 ny : nv.ownBlock ≠ some yb
theorem ObIn.grow {w0 w w' : World} {yb : Nat} {cs : Array Value} {T : TypeId} {nv : Value} {E : TypeId} {xs : List Value} (h : ObIn w0 w yb cs T nv E xs) (hb : Below w.heap.size w w') : ObIn w0 w' yb cs T nv E xs :=
 ⟨h.b0.trans (hb.mono h.b0.size), h.hyb, by rw [hb.block yb (blk_lt h.y)]; exact h.y, owns_below h.n hb, h.ny⟩
theorem ObIn.set {w0 w : World} {yb : Nat} {cs cs' : Array Value} {T : TypeId} {nv : Value} {E : TypeId} {xs : List Value} (h : ObIn w0 w yb cs T nv E xs) (o : Nat) (x : Value) (hx : cs.setIfInBounds o x = cs') : ObIn w0 (w.setCell ⟨yb, o, none⟩ x) yb cs' T nv E xs := by
 have oth : ∀ b, b ≠ yb → (w.setCell ⟨yb, o, none⟩ x).heap[b]? = w.heap[b]? := fun b hb => blk_other _ _ (by simpa using hb)
 refine ⟨h.b0.setCell (p := ⟨yb, o, none⟩) h.hyb _, h.hyb, by rw [← hx]; exact blk_set h.y o x, ?_, h.ny⟩
 exact owns_blk h.n (fun k hk => oth k (fun e => h.ny (by rw [← e]; exact hk)))
theorem ObIn.push {w0 w w3 W : World} {yb : Nat} {cs : Array Value} {T : TypeId} {nv : Value} {E : TypeId} {xs : List Value} {x : Value} {g cap o : Nat} {A : Obj}
  (h : ObIn w0 w yb cs T nv E xs) (hg : (w.alloc A).grownBy w3 nv.ownBlock) (ho : w3.ownsRow 0 E 1 (.slice (some ⟨g, 0, none⟩) (xs.length + 1) cap) (xs.length + 1) (xs ++ [x]))
  (hgg : nv.ownBlock = some g ∨ (w.alloc A).heap.size ≤ g) (hW : W = w3.setCell ⟨yb, o, none⟩ (.slice (some ⟨g, 0, none⟩) (xs.length + 1) cap)) :
  ObIn w0 W yb (cs.setIfInBounds o (.slice (some ⟨g, 0, none⟩) (xs.length + 1) cap)) T (.slice (some ⟨g, 0, none⟩) (xs.length + 1) cap) E (xs ++ [x]) ∧ FrO w W yb nv (.slice (some ⟨g, 0, none⟩) (xs.length + 1) cap) := by
 have hb0 := h.b0.size
 have hyl := blk_lt h.y
 have ea : (w.alloc A).heap.size = w.heap.size + 1 := by simp
 have hs3 := hg.size
 rw [ea] at hgg hs3
 have hsW : W.heap.size = w3.heap.size := by rw [hW]; simp [World.setCell]
 have hnlt : ∀ g, nv.ownBlock = some g → w0.heap.size ≤ g ∧ g < w.heap.size := fun g hg => h.n.lt g hg
 have o3 : ∀ b, b < w.heap.size → nv.ownBlock ≠ some b → w3.heap[b]? = w.heap[b]? := by
  intro b hb hn
  rw [hg.block b (by rw [ea]; omega) (fun e => hn e.symm), Below.heap_alloc _ _ _ hb]
 have oW : ∀ b, b < w.heap.size → b ≠ yb → nv.ownBlock ≠ some b → W.heap[b]? = w.heap[b]? := by
  intro b hb hby hn
  rw [hW, blk_other _ _ (by simpa using hby), o3 b hb hn]
 have hgy : g ≠ yb := by
  intro e
  rcases hgg with hh | hh
  ·exact h.ny (by rw [hh, e])
  ·omega
 have hgb : w0.heap.size ≤ g := by
  rcases hgg with hh | hh
  ·exact (hnlt g hh).1
  ·omega
 have hyW : W.heap[yb]? = some (.cells (cs.setIfInBounds o (.slice (some ⟨g, 0, none⟩) (xs.length + 1) cap)) T (0, 0)) := by
  rw [hW]
  refine (blk_set (arr := cs) ?_ o _).trans rfl
  rw [o3 yb hyl h.ny]; exact h.y
 refine ⟨⟨?_, h.hyb, hyW, ?_, ?_⟩, ⟨by omega, fun k hk hy hn => oW k hk hy hn, fun g' hg' => by simp only [Value.ownBlock, Option.some.injEq] at hg'; subst hg'; rcases hgg with e | e; exact Or.inl e; exact Or.inr (by omega)⟩⟩
 ·refine h.b0.trans ⟨?_, ?_, ?_, by omega, fun k hk => oW k (by omega) (by have := h.hyb; omega) (fun e => by have := hnlt k e; omega)⟩
  ·rw [hW]; exact hg.os
  ·rw [hW]; exact hg.tape
  ·rw [hW]; exact hg.output
 ·have e1 : (xs ++ [x]).length = xs.length + 1 := by simp
  rw [e1]
  refine owns_base (owns_blk ho (fun k hk => ?_)) (fun k hk => ?_)
  ·simp only [Value.ownBlock, Option.some.injEq] at hk
   subst hk
   rw [hW, blk_other _ _ (by simpa using hgy)]
  ·simp only [Value.ownBlock, Option.some.injEq] at hk
   subst hk; exact hgb
 ·simp only [Value.ownBlock, ne_eq, Option.some.injEq]; exact hgy
theorem ObIn.pop {w0 w : World} {yb : Nat} {cs : Array Value} {T : TypeId} {E : TypeId} {xs : List Value} {x : Value} {g cap o : Nat}
  (h : ObIn w0 w yb cs T (.slice (some ⟨g, 0, none⟩) (xs.length + 1) cap) E (xs ++ [x])) :
  ObIn w0 (w.setCell ⟨yb, o, none⟩ (.slice (some ⟨g, 0, none⟩) xs.length cap)) yb (cs.setIfInBounds o (.slice (some ⟨g, 0, none⟩) xs.length cap)) T (.slice (some ⟨g, 0, none⟩) xs.length cap) E xs := by
 have oth : ∀ b, b ≠ yb → (w.setCell ⟨yb, o, none⟩ (.slice (some ⟨g, 0, none⟩) xs.length cap)).heap[b]? = w.heap[b]? := fun b hb => blk_other _ _ (by simpa using hb)
 have hp : w.ownsRow w0.heap.size E 1 (.slice (some ⟨g, 0, none⟩) xs.length cap) xs.length xs := by
  refine ownsRow_pop (last := [x]) (by simp) ?_
  have := h.n
  simpa using this
 refine ⟨?_, h.hyb, (blk_set h.y o _).trans rfl, owns_blk hp (fun k hk => oth k (fun e => h.ny (by rw [← e]; exact hk))), h.ny⟩
 exact h.b0.setCell (p := ⟨yb, o, none⟩) h.hyb _
theorem ObIn.shape {w0 w : World} {yb : Nat} {cs : Array Value} {T : TypeId} {nv : Value} {E : TypeId} {xs : List Value} (h : ObIn w0 w yb cs T nv E xs) : ∃ a cap, nv = .slice a xs.length cap ∧ xs.length ≤ cap ∧ (0 < xs.length → ∃ g, a = some ⟨g, 0, none⟩) := by
 rcases h.n.2 with ⟨hv, hn⟩ | ⟨g, cap, cur, hv, _, _, hc, _⟩
 ·exact ⟨none, 0, by rw [hv, hn], by omega, fun h => by omega⟩
 ·exact ⟨_, cap, hv, hc, fun _ => ⟨g, rfl⟩⟩
theorem ObIn.other {w0 w w' : World} {yb : Nat} {cs : Array Value} {T : TypeId} {nv nv' : Value} {E : TypeId} {xs : List Value} (h : ObIn w0 w yb cs T nv E xs) (hf : FrO w w' yb nv nv') {U : TypeId} (hT : U ≠ T) (hE : U ≠ E) {k : Nat} {arr : Array Value} {fz : Nat × Nat} (hk : w.heap[k]? = some (.cells arr U fz)) : w'.heap[k]? = some (.cells arr U fz) := by
 rw [← hk]
 refine hf.blk k (blk_lt hk) ?_ ?_
 ·rintro rfl
  have := h.y
  rw [hk] at this
  simp only [Option.some.injEq, Obj.cells.injEq] at this
  exact hT this.2.1
 ·intro e
  rcases h.n.2 with ⟨hv, hn⟩ | ⟨g, cap, cur, hv, _, hg, _⟩
  ·rw [hv] at e; cases e
  ·rw [hv] at e
   simp only [Value.ownBlock, Option.some.injEq] at e
   subst e
   rw [hk] at hg
   simp only [Option.some.injEq, Obj.cells.injEq] at hg
   exact hE hg.2.1
def I64 (c : Int) : Prop := -9223372036854775808 ≤ c ∧ c ≤ 9223372036854775807
def RawIn (w : World) (rv : Value) (raw : List Int) : Prop :=
 (∀ c ∈ raw, I64 c) ∧ ((rv = .slice none 0 0 ∧ raw = []) ∨ ∃ a cap, rv = .slice (some a) raw.length cap ∧ raw.length ≤ maxLen ∧ ∀ (i : Nat) (c : Int), raw[i]? = some c → w.cell? (a.add i) = some (.int .i64 c))
theorem RawIn.below {w w' : World} {rv : Value} {raw : List Int} (h : RawIn w rv raw) (hb : Below w.heap.size w w') : RawIn w' rv raw := by
 refine ⟨h.1, ?_⟩
 rcases h.2 with h | ⟨a, cap, h1, h2, h3⟩
 ·exact Or.inl h
 ·exact Or.inr ⟨a, cap, h1, h2, fun i c hc => (hb.cell (World.block_lt_of_cell? _ _ (h3 i c hc))).trans (h3 i c hc)⟩
def mkCells (rv : Value) (s : MkS) (nv : Value) : Array Value := #[rv, .int .i64 s.at_, .int .i64 s.left, nv]
def natsV (l : List Nat) : List Value := l.map (fun (k : Nat) => Value.int .i64 k)
structure MkIn (w0 w : World) (yb : Nat) (rv : Value) (raw : List Int) (s : MkS) (nv : Value) : Prop where
 r : RawIn w0 rv raw
 ob : ObIn w0 w yb (mkCells rv s nv) 94 nv 3 (natsV s.vars)
theorem MkIn.grow {w0 w w' : World} {yb : Nat} {rv : Value} {raw : List Int} {s : MkS} {nv : Value} (h : MkIn w0 w yb rv raw s nv) (hb : Below w.heap.size w w') : MkIn w0 w' yb rv raw s nv := ⟨h.r, h.ob.grow hb⟩
set_option maxRecDepth 100000 in
theorem pick_any (c : Int) (n : Nat) (w : World) (hc : I64 c) (hn : 0 < n) (hn' : n ≤ 100000) : Calls Tryz.prog 23 #[.int .i64 c, .int .i64 n] w fun e w' => e = .returned (.int .i64 (pickF c n : Nat)) ∧ w' = w := by
 obtain ⟨h1, h2⟩ := hc
 have hl := pickF_lt c n hn
 have hv : ((pickF c n : Nat) : Int) = Int.tmod (if c < 0 then -(c + 1) else c) n := by
  unfold pickF
  exact Int.toNat_of_nonneg (Int.tmod_nonneg _ (by split <;> omega))
 rw [hv]
 have hne : ((n : Int) == 0) = false := by rw [beq_eq_false_iff_ne]; omega
 by_cases h0 : c < 0
 ·rw [if_pos h0] at hv ⊢
  go_enter Tryz.func23, Tryz.ntmps23
  go_wp2
  go_ret
  exact ⟨by rw [Int.neg_tmod]; rfl, rfl⟩
 ·rw [if_neg h0] at hv ⊢
  go_enter Tryz.func23, Tryz.ntmps23
  go_wp2
  go_ret
  exact ⟨by rw [Int.tmod_eq_emod_of_nonneg (by omega)]; rfl, rfl⟩
theorem Tryz.infoFive : (Tryz.prog.info? 200).map (·.size) = some 5 := by kernel_rfl
set_option maxRecDepth 100000 in
theorem kfirst_any (t : Nat) (ht : t < 5) (w : World) : Calls Tryz.prog 82 #[.int .i64 t] w fun e w' => e = .returned (.int .i64 (fI t)) ∧ Below w.heap.size w w' := by
 have h5 : t = 0 ∨ t = 1 ∨ t = 2 ∨ t = 3 ∨ t = 4 := by omega
 rcases h5 with rfl | rfl | rfl | rfl | rfl
 all_goals
  go_enter Tryz.func82, Tryz.ntmps82
  go_wp2_with (refine st_row rfl 200 (.tmp 3) (.tmp 4) rfl w.heap.size #[.int .i64 (-1), .int .i64 0, .int .i64 1, .int .i64 0, .int .i64 1] rfl rfl 200 _ (blk_new _ _) Tryz.infoFive rfl (by simp [Value.oneCell']) ?_; intro W hW hWs hWo hW1 hW2 hW3; have s0 : W.cell? ⟨w.heap.size, 0, none⟩ = some (.int .i64 (-1)) := (by rw [blk_cell hW]; rfl); have s1 : W.cell? ⟨w.heap.size, 1, none⟩ = some (.int .i64 0) := (by rw [blk_cell hW]; rfl); have s2 : W.cell? ⟨w.heap.size, 2, none⟩ = some (.int .i64 1) := (by rw [blk_cell hW]; rfl); have s3 : W.cell? ⟨w.heap.size, 3, none⟩ = some (.int .i64 0) := (by rw [blk_cell hW]; rfl); have s4 : W.cell? ⟨w.heap.size, 4, none⟩ = some (.int .i64 1) := (by rw [blk_cell hW]; rfl); have hwl := blk_lt hW; have HB : Hid (Below w.heap.size w W) := below_new (Below.alloc (Below.refl _ w) (Nat.le_refl _) _) (Nat.le_refl _) hWs hWo hW1 hW2 hW3; clear hW hWs hWo hW1 hW2 hW3)
  go_ret
  exact ⟨rfl, HB.out⟩
set_option maxRecDepth 100000 in
theorem ksecond_any (t : Nat) (ht : t < 5) (w : World) : Calls Tryz.prog 83 #[.int .i64 t] w fun e w' => e = .returned (.int .i64 (sI t)) ∧ Below w.heap.size w w' := by
 have h5 : t = 0 ∨ t = 1 ∨ t = 2 ∨ t = 3 ∨ t = 4 := by omega
 rcases h5 with rfl | rfl | rfl | rfl | rfl
 all_goals
  go_enter Tryz.func83, Tryz.ntmps83
  go_wp2_with (refine st_row rfl 200 (.tmp 3) (.tmp 4) rfl w.heap.size #[.int .i64 (-1), .int .i64 0, .int .i64 0, .int .i64 1, .int .i64 1] rfl rfl 200 _ (blk_new _ _) Tryz.infoFive rfl (by simp [Value.oneCell']) ?_; intro W hW hWs hWo hW1 hW2 hW3; have s0 : W.cell? ⟨w.heap.size, 0, none⟩ = some (.int .i64 (-1)) := (by rw [blk_cell hW]; rfl); have s1 : W.cell? ⟨w.heap.size, 1, none⟩ = some (.int .i64 0) := (by rw [blk_cell hW]; rfl); have s2 : W.cell? ⟨w.heap.size, 2, none⟩ = some (.int .i64 0) := (by rw [blk_cell hW]; rfl); have s3 : W.cell? ⟨w.heap.size, 3, none⟩ = some (.int .i64 1) := (by rw [blk_cell hW]; rfl); have s4 : W.cell? ⟨w.heap.size, 4, none⟩ = some (.int .i64 1) := (by rw [blk_cell hW]; rfl); have hwl := blk_lt hW; have HB : Hid (Below w.heap.size w W) := below_new (Below.alloc (Below.refl _ w) (Nat.le_refl _) _) (Nat.le_refl _) hWs hWo hW1 hW2 hW3; clear hW hWs hWo hW1 hW2 hW3)
  go_ret
  exact ⟨rfl, HB.out⟩
set_option maxRecDepth 100000 in
set_option maxHeartbeats 1000000 in
theorem next_any {w0 w : World} {yb : Nat} {rv : Value} {raw : List Int} {s : MkS} {nv : Value} (n : Nat) (hn : 0 < n) (hn' : n ≤ 100000) (h : MkIn w0 w yb rv raw s nv) (hat : s.at_ ≤ 1000000) :
  Calls Tryz.prog 53 #[.pointer (some ⟨yb, 0, none⟩), .int .i64 n] w fun e w' => e = .returned (.int .i64 ((nextF raw n s).1 : Nat)) ∧ FrO w w' yb nv nv ∧ MkIn w0 w' yb rv raw (nextF raw n s).2 nv := by
 have hyl := blk_lt h.ob.y
 have y1 : w.cell? ⟨yb, 1, none⟩ = some (.int .i64 s.at_) := by rw [blk_cell h.ob.y]; rfl
 have f1 : w.frozen? ⟨yb, 1, none⟩ = false := blk_free h.ob.y 1
 have y0 : w.cell? ⟨yb, 0, none⟩ = some rv := by rw [blk_cell h.ob.y]; rfl
 by_cases hr : raw = []
 ·have hnx : nextF raw n s = (0, s) := by unfold nextF; rw [if_pos hr]
  rw [hnx]
  obtain ⟨a, cap, hrv⟩ : ∃ a cap, rv = .slice a 0 cap := by
   rcases h.r.2 with ⟨h1, _⟩ | ⟨a, cap, h1, _, _⟩
   ·exact ⟨none, 0, h1⟩
   ·exact ⟨some a, cap, by rw [h1, hr]; rfl⟩
  rw [hrv] at y0
  have HH : Hid _ := h
  clear h hr hnx f1 y1
  go_enter Tryz.func53, Tryz.ntmps53
  go_wp2
  go_ret
  exact ⟨rfl, FrO.refl _ _ _, HH.out⟩
 ·have hpos : 0 < raw.length := List.length_pos_iff.2 hr
  obtain ⟨a, cap, hrv, hlen, hcl⟩ : ∃ a cap, rv = .slice (some a) raw.length cap ∧ raw.length ≤ maxLen ∧ ∀ (i : Nat) (c : Int), raw[i]? = some c → w0.cell? (a.add i) = some (.int .i64 c) := by
   rcases h.r.2 with ⟨_, h1⟩ | ⟨a, cap, h1, h2, h3⟩
   ·exact absurd h1 hr
   ·exact ⟨a, cap, h1, h2, h3⟩
  have hlt := Nat.mod_lt s.at_ hpos
  obtain ⟨c, hc⟩ : ∃ c, raw[s.at_ % raw.length]? = some c := ⟨_, List.getElem?_eq_getElem hlt⟩
  have hnx : nextF raw n s = (pickF c n, { s with at_ := s.at_ + 1 }) := by unfold nextF; rw [if_neg hr, List.getD_eq_getElem?_getD, hc]; rfl
  rw [hnx]
  have hci : I64 c := h.r.1 c (List.mem_of_getElem? hc)
  have hcell0 := hcl _ c hc
  have hcell : w.cell? (a.add (s.at_ % raw.length)) = some (.int .i64 c) := (h.ob.b0.cell (World.block_lt_of_cell? _ _ hcell0)).trans hcell0
  have hal : (a.add (s.at_ % raw.length)).block < w.heap.size := World.block_lt_of_cell? _ _ hcell
  have hidx : Int.tmod (s.at_ : Int) (raw.length : Int) = ((s.at_ % raw.length : Nat) : Int) := (Int.ofNat_tmod _ _).symm
  have hpk := fun w => pick_any c n w hci hn hn'
  rw [hrv] at y0
  have q0 : ((raw.length : Int) == 0) = false := by rw [beq_eq_false_iff_ne]; omega
  have hset := fun m => (h.ob.grow (below_drewO w m)).set 1 (.int .i64 ((s.at_ : Int) + 1)) (cs' := mkCells rv { s with at_ := s.at_ + 1 } nv) (by simp [mkCells])
  have HSET : Hid _ := hset
  have HR : Hid _ := h.r
  have hml : raw.length ≤ maxLen := hlen
  clear h hr hnx hcl hc hset hcell0 hlen
  generalize hix : s.at_ % raw.length = ix at *
  go_enter Tryz.func53, Tryz.ntmps53
  go_wp2
  go_quiet (fail)
  go_wp2_with fail
  refine (hpk _).mono ?_
  rintro _ w2 ⟨rfl, rfl⟩
  go_wp2
  go_ret
  exact ⟨rfl, FrO.setAt w yb nv _ 1 _, HR.out, HSET.out _⟩
end Go.Proofs.YtpicaknklgccoaaGreatDoor
