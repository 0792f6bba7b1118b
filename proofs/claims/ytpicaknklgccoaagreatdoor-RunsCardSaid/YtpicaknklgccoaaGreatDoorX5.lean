import Derived.Test.YtpicaknklgccoaaGreatDoorX3
import Derived.Test.YtpicaknklgccoaaGreatDoorX4
namespace Go.Proofs.YtpicaknklgccoaaGreatDoor
open Go.RowKit
open Go.Lib (decDigits)
mutual
theorem PT.ind {P : PT → Prop} (h1 : ∀ p s, P (.num p s)) (h2 : ∀ p s, P (.name p s)) (h3 : ∀ p k nm rg kids, (∀ x ∈ kids, P x) → P (.node p k nm rg kids)) : ∀ t, P t
 | .num p s => h1 p s
 | .name p s => h2 p s
 | .node p k nm rg kids => h3 p k nm rg kids (PT.indL h1 h2 h3 kids)
theorem PT.indL {P : PT → Prop} (h1 : ∀ p s, P (.num p s)) (h2 : ∀ p s, P (.name p s)) (h3 : ∀ p k nm rg kids, (∀ x ∈ kids, P x) → P (.node p k nm rg kids)) : ∀ l : List PT, ∀ x ∈ l, P x
 | [] => fun x hx => by simp at hx
 | t :: r => fun x hx => by
  have ht := PT.ind h1 h2 h3 t
  have hr := PT.indL h1 h2 h3 r
  rcases List.mem_cons.1 hx with h | h
  ·rw [h]; exact ht
  ·exact hr x h
end
structure Rec where
 op : List UInt8
 p : Nat
 nm : List UInt8
 n : Int
 id : Nat
 last : Nat
 site : Nat
mutual
def PT.recs : PT → Nat → Nat → List Rec
 | .num p s, id, site => [⟨numB, p, [], valueL s, id, id, site⟩]
 | .name p s, id, site => [⟨nameB, p, s, 0, id, id, site⟩]
 | .node p k nm rg kids, id, site => recsL kids (id + 1) (site + if k = .pair then 1 else 0) ++ [⟨k.bytes, p, nm, valueL rg, id, id + cntL kids, site⟩]
def recsL : List PT → Nat → Nat → List Rec
 | [], _, _ => []
 | t :: r, id, site => t.recs id site ++ recsL r (id + t.cnt) (site + t.prs)
end
def isRec (w : World) (b : Nat) (r : Rec) : Prop := ∃ kv, w.heap[b]? = some (.cells (exCells r.op r.p r.nm r.n kv r.id r.last r.site) 82 (0, 0))
def areRecs (w : World) : List Nat → List Rec → Prop
 | [], [] => True
 | b :: bl, r :: rl => isRec w b r ∧ areRecs w bl rl
 | _, _ => False
theorem areRecs.append {w : World} : ∀ {bl bl' : List Nat} {rl rl' : List Rec}, areRecs w bl rl → areRecs w bl' rl' → areRecs w (bl ++ bl') (rl ++ rl')
 | [], _, [], _, _, h => h
 | b :: bl, _, r :: rl, _, h, h' => ⟨h.1, areRecs.append h.2 h'⟩
 | [], _, _ :: _, _, h, _ => by simp [areRecs] at h
 | _ :: _, _, [], _, h, _ => by simp [areRecs] at h
theorem areRecs.len {w : World} : ∀ {bl : List Nat} {rl : List Rec}, areRecs w bl rl → bl.length = rl.length
 | [], [], _ => rfl
 | b :: bl, r :: rl, h => by simp [areRecs.len h.2]
 | [], _ :: _, h => by simp [areRecs] at h
 | _ :: _, [], h => by simp [areRecs] at h
mutual
theorem recs_len : ∀ (t : PT) (id site : Nat), (t.recs id site).length = t.cnt
 | .num _ _, _, _ => rfl
 | .name _ _, _, _ => rfl
 | .node _ _ _ _ kids, id, site => by simp [PT.recs, PT.cnt, recsL_len kids]; omega
theorem recsL_len : ∀ (ts : List PT) (id site : Nat), (recsL ts id site).length = cntL ts
 | [], _, _ => rfl
 | t :: r, id, site => by simp [recsL, cntL, recs_len t, recsL_len r]
end
theorem recsL_snoc (ts : List PT) (t : PT) : ∀ (id site : Nat), recsL (ts ++ [t]) id site = recsL ts id site ++ t.recs (id + cntL ts) (site + prsL ts) := by
 induction ts with
 | nil => intro id site; simp [recsL, cntL, prsL]
 | cons a r ih => intro id site; simp only [List.cons_append, recsL, ih, cntL, prsL, List.append_assoc]; rw [Nat.add_assoc, Nat.add_assoc]
theorem IsTs.at {w : World} {F : Nat → Prop} : ∀ (ts : List PT) (id site : Nat) (bl : List Nat), IsTs w F ts id site bl → ∀ (i : Nat) (t : PT), ts[i]? = some t → ∃ b, bl[i]? = some b ∧ IsT w F t (id + cntL (ts.take i)) (site + prsL (ts.take i)) b
 | [], _, _, [], _, i, t, ht => by simp at ht
 | a :: ts, id, site, c :: bl, h, 0, t, ht => by
  simp only [IsTs] at h
  simp at ht; subst ht
  exact ⟨c, rfl, by simpa [cntL, prsL] using h.1⟩
 | a :: ts, id, site, c :: bl, h, i + 1, t, ht => by
  simp only [IsTs] at h
  obtain ⟨b, hb, hT⟩ := IsTs.at ts _ _ bl h.2 i t (by simpa using ht)
  refine ⟨b, by simpa using hb, ?_⟩
  simp only [List.take_succ_cons, cntL, prsL]
  rw [← Nat.add_assoc, ← Nat.add_assoc]; exact hT
 | [], _, _, _ :: _, h, _, _, _ => by simp [IsTs] at h
 | _ :: _, _, _, [], h, _, _, _ => by simp [IsTs] at h
theorem cnt_pos (t : PT) : 0 < t.cnt := by cases t <;> simp [PT.cnt] <;> omega
theorem len_cntL (ts : List PT) : ts.length ≤ cntL ts := by
 induction ts with
 | nil => simp
 | cons a r ih => have := cnt_pos a; simp [cntL]; omega
theorem cntL_take (ts : List PT) (i : Nat) : cntL (ts.take i) ≤ cntL ts := by
 induction ts generalizing i with
 | nil => simp
 | cons a r ih => cases i with
  | zero => simp [cntL]
  | succ i => have := ih i; simp [cntL]; omega
theorem owns_size {w w' : World} {base : Nat} {e : TypeId} {size : Nat} {v : Value} {n : Nat} {xs : List Value} (h : w.ownsRow base e size v n xs) (hb : ∀ k, k < w.heap.size → w'.heap[k]? = w.heap[k]?) : w'.ownsRow base e size v n xs :=
 owns_blk h (fun k hk => hb k (h.lt k hk).2)
mutual
theorem IsT.same {w w' : World} {F : Nat → Prop} (hk : ∀ k, k < w.heap.size → w'.heap[k]? = w.heap[k]?) : ∀ (t : PT) (id site b : Nat), IsT w F t id site b → IsT w' F t id site b
 | .num p s, id, site, b, h => by
  simp only [IsT] at h ⊢
  exact ⟨h.1, by rw [hk _ (blk_lt h.2)]; exact h.2⟩
 | .name p s, id, site, b, h => by
  simp only [IsT] at h ⊢
  exact ⟨h.1, by rw [hk _ (blk_lt h.2)]; exact h.2⟩
 | .node p k nm rg kids, id, site, b, h => by
  simp only [IsT] at h ⊢
  obtain ⟨hb, kv, bl, h1, h2, h3, h4⟩ := h
  exact ⟨hb, kv, bl, by rw [hk _ (blk_lt h1)]; exact h1, h2, owns_size h3 hk, IsTs.same hk kids _ _ bl h4⟩
theorem IsTs.same {w w' : World} {F : Nat → Prop} (hk : ∀ k, k < w.heap.size → w'.heap[k]? = w.heap[k]?) : ∀ (ts : List PT) (id site : Nat) (bl : List Nat), IsTs w F ts id site bl → IsTs w' F ts id site bl
 | [], _, _, [], _ => by simp [IsTs]
 | t :: ts, id, site, b :: bl, h => by
  simp only [IsTs] at h ⊢
  exact ⟨IsT.same hk t _ _ b h.1, IsTs.same hk ts _ _ bl h.2⟩
 | [], _, _, _ :: _, h => by simp [IsTs] at h
 | _ :: _, _, _, [], h => by simp [IsTs] at h
end
theorem areRecs.same {w w' : World} (hk : ∀ k, k < w.heap.size → w'.heap[k]? = w.heap[k]?) : ∀ {bl : List Nat} {rl : List Rec}, areRecs w bl rl → areRecs w' bl rl
 | [], [], _ => True.intro
 | b :: bl, r :: rl, h => by
  obtain ⟨⟨kv, h1⟩, h2⟩ := h
  exact ⟨⟨kv, by rw [hk b (blk_lt h1)]; exact h1⟩, areRecs.same hk h2⟩
 | [], _ :: _, h => by simp [areRecs] at h
 | _ :: _, [], h => by simp [areRecs] at h
theorem Tryz.undPtrs : Tryz.prog.underlying 76 = some (.slice 63) := by kernel_rfl
theorem Tryz.infoPtr : (Tryz.prog.info? 63).map (fun i => (i.zero, i.size, i.bytes)) = some (some (.pointer none), 1, 8) := by kernel_rfl
set_option maxRecDepth 100000 in
set_option maxHeartbeats 1000000 in
theorem all_leaf (b : Nat) (w0 w : World) (op : List UInt8) (p : Nat) (nm : List UInt8) (n : Int) (id site : Nat) (hb : w0.heap[b]? = some (.cells (exCells op p nm n (.slice none 0 0) id id site) 82 (0, 0))) (hw0 : Below w0.heap.size w0 w) :
  Calls Tryz.prog 69 #[ptr b] w fun e w' => ∃ g cap bl, e = .returned (.slice (some ⟨g, 0, none⟩) bl.length cap) ∧ Below w.heap.size w w' ∧ w'.ownsRow w.heap.size 63 1 (.slice (some ⟨g, 0, none⟩) bl.length cap) bl.length (bl.map ptr) ∧ areRecs w0 bl [⟨op, p, nm, n, id, id, site⟩] := by
 obtain ⟨i0, hi, hz0, hz1, hz2⟩ := info_parts Tryz.infoPtr
 have HI : Hid _ := hi
 have HZ0 : Hid _ := hz0
 have HZ1 : Hid _ := hz1
 have HZ2 : Hid _ := hz2
 clear hi hz0 hz1 hz2
 have hbw := blk_lt hb
 have x4 : w.cell? ⟨b, 4, none⟩ = some (.slice none 0 0) := (hw0.cell (p := ⟨b, 4, none⟩) hbw).trans (by rw [blk_cell hb]; rfl)
 have HB : Hid _ := hb
 clear hb
 show Calls _ _ #[Value.pointer (some ⟨b, 0, none⟩)] w _
 go_enter Tryz.func69, Tryz.ntmps69
 go_wp2
 refine wp_loop_rounds 1 ?_
 rw [rounds_succ]
 go_wp2_with (at_builtin; refine wpList_append_own _ rfl (.tmp 26) (.tmp 28) 76 rfl w.heap.size 63 i0 _ 1 8 Tryz.undPtrs HI.out HZ0.out HZ1.out HZ2.out rfl (by decide) _ 0 [] rfl (World.ownsRow_nil _ _ _ _) ⟨w.heap.size, 0, none⟩ 1 1 [ptr b] rfl rfl ?d1 ?d2 ?d3 ?d4 ?d5 ?_)
 case d1 =>
  intro j' u hj'
  match j', hj' with
  | 0, hj' => simp at hj'; subst hj'; simp [Addr.add, ptr]
  | j' + 1, hj' => simp at hj'
 case d2 => intro u hu; simp at hu; subst hu; rfl
 case d3 => unfold maxLen; omega
 case d4 => omega
 case d5 => simp
 intro v' w2 hown' hgrow hnil
 have HB2 : Hid (Below w.heap.size w w2) := ((Below.refl w.heap.size w).alloc (Nat.le_refl _) _).grown hgrow (by simp) (fun b hb => by simp [Value.ownBlock] at hb)
 obtain ⟨g2, cap2, hv2⟩ : ∃ g2 cap2, v' = .slice (some ⟨g2, 0, none⟩) 1 cap2 := by
  rcases hown'.2 with ⟨h, h'⟩ | ⟨g', cap', cur, h, _⟩
  ·omega
  ·exact ⟨_, _, h⟩
 rw [hv2] at hown' ⊢
 have HO3 : Hid (w2.ownsRow w.heap.size 63 1 (.slice (some ⟨g2, 0, none⟩) 1 cap2) 1 [ptr b]) := hown'
 clear hown' hgrow hnil hv2
 go_wp2
 go_ret
 exact ⟨g2, cap2, [b], rfl, HB2.out, HO3.out, ⟨_, HB.out⟩, True.intro⟩
set_option maxRecDepth 100000 in
set_option maxHeartbeats 1000000 in
theorem all_any (t : PT) : ∀ (id site b : Nat) (F : Nat → Prop) (w0 : World), t.cnt ≤ 9000 → IsT w0 F t id site b → ∀ w : World, Below w0.heap.size w0 w → Calls Tryz.prog 69 #[ptr b] w fun e w' =>
  ∃ g cap bl, e = .returned (.slice (some ⟨g, 0, none⟩) bl.length cap) ∧ Below w.heap.size w w' ∧ w'.ownsRow w.heap.size 63 1 (.slice (some ⟨g, 0, none⟩) bl.length cap) bl.length (bl.map ptr) ∧ areRecs w0 bl (t.recs id site) := by
 induction t using PT.ind with
 | h1 p s =>
  intro id site b F w0 hcnt hT w hw0
  simp only [IsT] at hT
  exact all_leaf b w0 w _ _ _ _ _ _ hT.2 hw0
 | h2 p s =>
  intro id site b F w0 hcnt hT w hw0
  simp only [IsT] at hT
  exact all_leaf b w0 w _ _ _ _ _ _ hT.2 hw0
 | h3 p k nm rg kids ih =>
  intro id site b F w0 hcnt hT w hw0
  obtain ⟨i0, hi, hz0, hz1, hz2⟩ := info_parts Tryz.infoPtr
  have HI : Hid _ := hi
  have HZ0 : Hid _ := hz0
  have HZ1 : Hid _ := hz1
  have HZ2 : Hid _ := hz2
  clear hi hz0 hz1 hz2
  simp only [IsT] at hT
  obtain ⟨hFb, kv, bl, hb, hF, hkv, hts⟩ := hT
  have hbw := blk_lt hb
  have hw0s := hw0.size
  have x4 : w.cell? ⟨b, 4, none⟩ = some kv := (hw0.cell (p := ⟨b, 4, none⟩) hbw).trans (by rw [blk_cell hb]; rfl)
  have hkl : kids.length ≤ 9000 := by have := len_cntL kids; simp only [PT.cnt] at hcnt; omega
  have hlen := IsTs.len _ _ _ _ hts
  have hcl : cntL kids ≤ 9000 := by simp only [PT.cnt] at hcnt; omega
  obtain ⟨va, vc, hvk⟩ : ∃ va vc, kv = .slice va kids.length vc := by
   rcases hkv.2 with ⟨h, h'⟩ | ⟨g, cap, cur, h, _⟩
   ·exact ⟨none, 0, by rw [h, h']⟩
   ·exact ⟨_, _, h⟩
  have HB : Hid _ := hb
  have HKV : Hid (w0.ownsRow 0 63 1 kv kids.length (bl.map ptr)) := hkv
  have HTS : Hid _ := hts
  have HV : Hid _ := hvk
  rw [hvk] at x4
  clear hb hkv hts hvk
  show Calls _ _ #[Value.pointer (some ⟨b, 0, none⟩)] w _
  go_enter Tryz.func69, Tryz.ntmps69
  go_wp2
  go_loopw [3, 4] (fun v i wr => ∃ (j : Nat) (cl : List Nat), j ≤ kids.length ∧ i = .int .i64 j ∧ Below w.heap.size w wr ∧ wr.ownsRow w.heap.size 63 1 v cl.length (cl.map ptr) ∧ areRecs w0 cl (recsL (kids.take j) (id + 1) (site + if k = .pair then 1 else 0))) (fun _ i _ => kids.length - (intOf i).toNat)
  case atStart => exact ⟨0, [], by omega, rfl, Below.refl _ _, World.ownsRow_nil _ _ _ _, by simp [recsL, areRecs]⟩
  case round =>
   obtain ⟨j, cl, hj, rfl, hbel, hown, hrec⟩ := hrel
   have x4r : wr.cell? ⟨b, 4, none⟩ = some (.slice va kids.length vc) := (hbel.cell (p := ⟨b, 4, none⟩) (by simp only; omega)).trans x4
   by_cases hlt : j < kids.length
   ·obtain ⟨x, hx⟩ : ∃ x, kids[j]? = some x := ⟨kids[j], List.getElem?_eq_getElem hlt⟩
    obtain ⟨bx, hbx, hTx⟩ := IsTs.at _ _ _ _ HTS.out j x hx
    have hcx : x.cnt ≤ 9000 := by
     have h1 := cntL_take kids (j + 1)
     rw [List.take_add_one, hx] at h1
     simp only [Option.toList_some] at h1
     rw [cntL_snoc] at h1
     omega
    have hcj : cl.length ≤ 9000 := by
     rw [hrec.len, recsL_len]
     have h1 := cntL_take kids j
     omega
    obtain ⟨gk, hgk⟩ : ∃ gk, va = some ⟨gk, 0, none⟩ := by
     have h := HKV.out.2
     rw [HV.out] at h
     rcases h with ⟨h, h'⟩ | ⟨g, cap, cur, h, _⟩
     ·omega
     ·simp only [Value.slice.injEq] at h; exact ⟨_, h.1⟩
    have hkc : w0.cell? ⟨gk, j, none⟩ = some (ptr bx) := by
     have h : w0.ownsRow 0 63 1 (.slice (some ⟨gk, 0, none⟩) kids.length vc) kids.length (bl.map ptr) := by rw [← hgk, ← HV.out]; exact HKV.out
     rw [h.cellAt j (by omega)]; simp [hbx]
    have hgkw : gk < w0.heap.size := World.block_lt_of_cell? _ _ hkc
    have hkcr : wr.cell? ⟨gk, j, none⟩ = some (ptr bx) := ((hw0.trans (hbel.mono hw0s)).cell (p := ⟨gk, j, none⟩) hgkw).trans hkc
    subst hgk
    unfold ptr at hkcr
    have hca := ih x (List.mem_of_getElem? hx) _ _ bx F w0 hcx hTx wr (hw0.trans (hbel.mono hw0s))
    unfold ptr at hca
    have HX : Hid _ := hx
    have HREC : Hid _ := hrec
    have HOWN : Hid (wr.ownsRow w.heap.size 63 1 _ cl.length (cl.map ptr)) := hown
    have HTX : Hid _ := hTx
    have hsz := hbel.size
    clear hx hbx hTx hkc hrec hown
    have hcs : cl.length + x.cnt ≤ 9000 := by
     have h0 := hcl
     have h1 := cntL_take kids (j + 1)
     rw [List.take_add_one, HX.out] at h1
     simp only [Option.toList_some] at h1
     rw [cntL_snoc] at h1
     have h2 := HREC.out.len
     rw [recsL_len] at h2
     omega
    go_wp2_with (first
     | (go_at_call 69; refine hca.mono ?_; rintro e w1 ⟨g1, cap1, bl1, rfl, hb1, ho1, hr1⟩)
     | (at_builtin; go_must (refine wpList_append_own _ rfl (.tmp 23) (.tmp 24) 76 rfl w.heap.size 63 i0 _ 1 8 Tryz.undPtrs HI.out HZ0.out HZ1.out HZ2.out rfl (by decide) _ cl.length (cl.map ptr) rfl (owns_below HOWN.out hb1) ⟨g1, 0, none⟩ bl1.length cap1 (bl1.map ptr) rfl ?d0 ?d1 ?d2 ?d3 ?d4 ?d5 ?_)))
    case d0 => simp
    case d1 => intro j' u hj'; exact ho1.cells rfl j' u hj'
    case d2 => intro u hu; simp at hu; obtain ⟨_, _, rfl⟩ := hu; rfl
    case d3 => have := hr1.len; rw [recs_len] at this; unfold maxLen; omega
    case d4 => have := hr1.len; rw [recs_len] at this; omega
    case d5 => have := hb1.size; omega
    intro v' w2 hown' hgrow hnil
    have hsz1 := hb1.size
    have HB2 : Hid (Below w.heap.size w w2) := (hbel.trans (hb1.mono hsz)).grown hgrow (by omega) (fun b hb => (World.ownsRow.lt HOWN.out b hb).1)
    have HO3 : Hid (w2.ownsRow w.heap.size 63 1 v' (cl.length + bl1.length) (cl.map ptr ++ bl1.map ptr)) := hown'
    have HR3 : Hid (areRecs w0 (cl ++ bl1) (recsL (kids.take j) (id + 1) (site + if k = .pair then 1 else 0) ++ x.recs (id + 1 + cntL (kids.take j)) (site + (if k = .pair then 1 else 0) + prsL (kids.take j)))) := by
     exact areRecs.append HREC.out hr1
    clear hown' hgrow hnil ho1 hr1 hb1
    go_wp2
    go_roundw
    case rel =>
     refine ⟨j + 1, cl ++ bl1, by omega, by go_num, HB2.out, ?_, ?_⟩
     ·have := HO3.out; simpa using this
     ·have := HR3.out
      rw [List.take_add_one, HX.out]
      simp only [Option.toList_some]
      rw [recsL_snoc]; exact this
    case measure => simp [intOf]; omega
   ·have hcj : cl.length ≤ 9000 := by
     rw [hrec.len, recsL_len]
     have h1 := cntL_take kids j
     omega
    have HREC : Hid _ := hrec
    have HOWN : Hid (wr.ownsRow w.heap.size 63 1 _ cl.length (cl.map ptr)) := hown
    have hsz := hbel.size
    clear hrec hown
    go_wp2_with (at_builtin; refine wpList_append_own _ rfl (.tmp 26) (.tmp 28) 76 rfl w.heap.size 63 i0 _ 1 8 Tryz.undPtrs HI.out HZ0.out HZ1.out HZ2.out rfl (by decide) _ cl.length (cl.map ptr) rfl (HOWN.out.alloc _) ⟨wr.heap.size, 0, none⟩ 1 1 [ptr b] rfl rfl ?d1 ?d2 ?d3 ?d4 ?d5 ?_)
    case d1 =>
     intro j' u hj'
     match j', hj' with
     | 0, hj' => simp at hj'; subst hj'; simp [Addr.add, ptr]
     | j' + 1, hj' => simp at hj'
    case d2 => intro u hu; simp at hu; subst hu; rfl
    case d3 => unfold maxLen; omega
    case d4 => omega
    case d5 => simp; omega
    intro v' w2 hown' hgrow hnil
    have HB2 : Hid (Below w.heap.size w w2) := (hbel.alloc hsz _).grown hgrow (by simp; omega) (fun b hb => (World.ownsRow.lt HOWN.out b hb).1)
    obtain ⟨g2, cap2, hv2⟩ : ∃ g2 cap2, v' = .slice (some ⟨g2, 0, none⟩) (cl.length + 1) cap2 := by
     rcases hown'.2 with ⟨h, h'⟩ | ⟨g', cap', cur, h, _⟩
     ·omega
     ·exact ⟨_, _, h⟩
    rw [hv2] at hown' ⊢
    have HO3 : Hid (w2.ownsRow w.heap.size 63 1 (.slice (some ⟨g2, 0, none⟩) (cl.length + 1) cap2) (cl.length + 1) (cl.map ptr ++ [ptr b])) := hown'
    clear hown' hgrow hnil hv2
    go_wp2
    go_ret
    refine ⟨g2, cap2, cl ++ [b], by simp, HB2.out, ?_, ?_⟩
    ·have := HO3.out; simpa using this
    ·have hj' : j = kids.length := by omega
     have hr := HREC.out
     rw [hj', List.take_length] at hr
     simp only [PT.recs]
     exact areRecs.append hr ⟨⟨_, HB.out⟩, True.intro⟩
def strV (l : List UInt8) : Value := .string (bs l)
def apart (u v : Value) : Prop := ∀ g, u.ownBlock = some g → v.ownBlock ≠ some g
theorem apart.symm {u v : Value} (h : apart u v) : apart v u := fun g hg hu => h g hu hg
structure TyIn (w0 w : World) (yb : Nat) (cls : List Nat) (cv nv tv ov : Value) (env : TEnv) (st : TSt) : Prop where
 b0 : Below w0.heap.size w0 w
 hyb : w0.heap.size ≤ yb
 y : w.heap[yb]? = some (.cells (tyCells cv nv tv ov st.e st.at_) 115 (0, 0))
 c : w.ownsRow w0.heap.size 3 1 cv cls.length (cls.map fun (k : Nat) => Value.int .i64 k)
 n : w.ownsRow w0.heap.size 9 1 nv env.length (env.map fun x => strV x.1)
 t : w.ownsRow w0.heap.size 9 1 tv env.length (env.map fun x => strV x.2.txt)
 o : w.ownsRow w0.heap.size 9 1 ov st.of.length (st.of.map strV)
 cy : cv.ownBlock ≠ some yb
 ny : nv.ownBlock ≠ some yb
 ty : tv.ownBlock ≠ some yb
 oy : ov.ownBlock ≠ some yb
 cn : apart cv nv
 ct : apart cv tv
 co : apart cv ov
 nt : apart nv tv
 no : apart nv ov
 tov : apart tv ov
structure Fr (w w' : World) (yb : Nat) (nv tv ov nv' tv' : Value) : Prop where
 size : w.heap.size ≤ w'.heap.size
 blk : ∀ k, k < w.heap.size → k ≠ yb → nv.ownBlock ≠ some k → tv.ownBlock ≠ some k → ov.ownBlock ≠ some k → w'.heap[k]? = w.heap[k]?
 n : ∀ g, nv'.ownBlock = some g → nv.ownBlock = some g ∨ w.heap.size ≤ g
 t : ∀ g, tv'.ownBlock = some g → tv.ownBlock = some g ∨ w.heap.size ≤ g
theorem Fr.refl (w : World) (yb : Nat) (nv tv ov : Value) : Fr w w yb nv tv ov nv tv := ⟨Nat.le_refl _, fun _ _ _ _ _ _ => rfl, fun _ h => Or.inl h, fun _ h => Or.inl h⟩
theorem Fr.trans {w w1 w2 : World} {yb : Nat} {nv tv ov nv1 tv1 nv2 tv2 : Value} (h : Fr w w1 yb nv tv ov nv1 tv1) (h' : Fr w1 w2 yb nv1 tv1 ov nv2 tv2) : Fr w w2 yb nv tv ov nv2 tv2 := by
 refine ⟨Nat.le_trans h.size h'.size, ?_, ?_, ?_⟩
 ·intro k hk hy hn ht ho
  rw [h'.blk k (Nat.lt_of_lt_of_le hk h.size) hy (fun e => by rcases h.n k e with e | e; exact hn e; omega) (fun e => by rcases h.t k e with e | e; exact ht e; omega) ho]
  exact h.blk k hk hy hn ht ho
 ·intro g hg
  rcases h'.n g hg with e | e
  ·exact h.n g e
  ·exact Or.inr (Nat.le_trans h.size e)
 ·intro g hg
  rcases h'.t g hg with e | e
  ·exact h.t g e
  ·exact Or.inr (Nat.le_trans h.size e)
theorem Fr.below {w w' : World} (h : Below w.heap.size w w') (yb : Nat) (nv tv ov : Value) : Fr w w' yb nv tv ov nv tv := ⟨h.size, fun k hk _ _ _ _ => h.block k hk, fun _ h => Or.inl h, fun _ h => Or.inl h⟩
theorem Fr.grown {w w' : World} {yb : Nat} (h : w.grownBy w' (some yb)) (nv tv ov : Value) : Fr w w' yb nv tv ov nv tv := ⟨h.size, fun k hk hy _ _ _ => h.block k hk (fun e => by cases e; exact hy rfl), fun _ h => Or.inl h, fun _ h => Or.inl h⟩
theorem Fr.set {w w' : World} {yb g o : Nat} {x : Value} (nv tv ov : Value) (ho : ov.ownBlock = some g) (hW : w'.heap = (w.setCell ⟨g, o, none⟩ x).heap) : Fr w w' yb nv tv ov nv tv :=
 ⟨by rw [hW]; simp [World.setCell], fun k _ _ _ _ h => by rw [hW, blk_other _ _ (by simp only; intro e; subst e; exact h ho)], fun _ h => Or.inl h, fun _ h => Or.inl h⟩
def FindOk (w0 : World) (yb : Nat) (cls : List Nat) (t : PT) : Prop :=
 ∀ (id site b : Nat) (F : Nat → Prop) (env : TEnv) (st : TSt) (cv nv tv ov : Value) (w : World), IsT w0 F t id site b → TyIn w0 w yb cls cv nv tv ov env st →
  id + t.cnt ≤ st.of.length → site + t.prs ≤ cls.length → (∀ x ∈ env, x.2.fit) → (st.e = 0 → ∀ x ∈ env, x.2.size ≤ 63) → env.length + t.cnt ≤ 9000 →
  Calls Tryz.prog 71 #[ptr yb, ptr b] w fun v w' => v = .returned (.string (bs (tyFind cls t id site env st).1.txt)) ∧
   ∃ nv' tv', Fr w w' yb nv tv ov nv' tv' ∧ TyIn w0 w' yb cls cv nv' tv' ov env (tyFind cls t id site env st).2
def FormOk (w0 : World) (yb : Nat) (cls : List Nat) (t : PT) (f : Nat → Nat → TEnv → TSt → Ty × TSt) : Prop :=
 ∀ (id site b : Nat) (F : Nat → Prop) (env : TEnv) (st : TSt) (cv nv tv ov : Value) (w : World), IsT w0 F t id site b → TyIn w0 w yb cls cv nv tv ov env st →
  id + t.cnt ≤ st.of.length → site + t.prs ≤ cls.length → (∀ x ∈ env, x.2.fit) → (st.e = 0 → ∀ x ∈ env, x.2.size ≤ 63) → env.length + t.cnt ≤ 9000 →
  Calls Tryz.prog 113 #[ptr yb, ptr b] w fun v w' => v = .returned (.string (bs (f id site env st).1.txt)) ∧
   ∃ nv' tv', Fr w w' yb nv tv ov nv' tv' ∧ TyIn w0 w' yb cls cv nv' tv' ov env (f id site env st).2
def PT.pl : PT → Nat
 | .num p _ => p
 | .name p _ => p
 | .node p _ _ _ _ => p
theorem isT_blk {w : World} {F : Nat → Prop} {t : PT} {id site b : Nat} (h : IsT w F t id site b) : ∃ op nm n kv last, w.heap[b]? = some (.cells (exCells op t.pl nm n kv id last site) 82 (0, 0)) := by
 cases t with
 | num p s => simp only [IsT] at h; exact ⟨_, _, _, _, _, h.2⟩
 | name p s => simp only [IsT] at h; exact ⟨_, _, _, _, _, h.2⟩
 | node p k nm rg kids => simp only [IsT] at h; obtain ⟨_, kv, bl, h1, _⟩ := h; exact ⟨_, _, _, _, _, h1⟩
theorem TyIn.err {w0 w w' : World} {yb : Nat} {cls : List Nat} {cv nv tv ov : Value} {env : TEnv} {st : TSt} (h : TyIn w0 w yb cls cv nv tv ov env st) (hg : w.grownBy w' (some yb)) {e p : Nat}
  (hy : w'.heap[yb]? = some (.cells (tyCells cv nv tv ov e p) 115 (0, 0))) : TyIn w0 w' yb cls cv nv tv ov env { st with e := e, at_ := p } := by
 have keep : ∀ (v : Value) (base : Nat) (ty : TypeId) (n : Nat) (xs : List Value), w.ownsRow base ty 1 v n xs → v.ownBlock ≠ some yb → w'.ownsRow base ty 1 v n xs := by
  intro v base ty n xs ho hv
  exact owns_blk ho (fun k hk => hg.block k (ho.lt k hk).2 (fun e => by cases e; exact hv hk))
 refine ⟨?_, h.hyb, hy, keep _ _ _ _ _ h.c h.cy, keep _ _ _ _ _ h.n h.ny, keep _ _ _ _ _ h.t h.ty, keep _ _ _ _ _ h.o h.oy, h.cy, h.ny, h.ty, h.oy, h.cn, h.ct, h.co, h.nt, h.no, h.tov⟩
 refine h.b0.trans ⟨hg.os, hg.tape, hg.output, hg.size, fun k hk => hg.block k (by have := h.b0.size; omega) (fun e => by cases e; have := h.hyb; omega)⟩
theorem TyIn.setOf {w0 w w' : World} {yb : Nat} {cls : List Nat} {cv nv tv : Value} {env : TEnv} {st : TSt} {g cap : Nat} (h : TyIn w0 w yb cls cv nv tv (.slice (some ⟨g, 0, none⟩) st.of.length cap) env st) (id : Nat) (x : List UInt8)
  (hW : w'.heap = (w.setCell ⟨g, id, none⟩ (strV x)).heap) (h1 : w'.os = w.os) (h2 : w'.tape = w.tape) (h3 : w'.output = w.output) :
  TyIn w0 w' yb cls cv nv tv (.slice (some ⟨g, 0, none⟩) (st.of.set id x).length cap) env { st with of := st.of.set id x } := by
 have hlt := h.o.lt g rfl
 have hoth : ∀ k, k ≠ g → w'.heap[k]? = w.heap[k]? := fun k hk => by rw [hW, blk_other _ _ (by simpa using hk)]
 have hs : w'.heap.size = w.heap.size := by rw [hW]; simp [World.setCell]
 have keep : ∀ (v : Value) (base : Nat) (ty : TypeId) (n : Nat) (xs : List Value), w.ownsRow base ty 1 v n xs → apart v (.slice (some ⟨g, 0, none⟩) st.of.length cap) → w'.ownsRow base ty 1 v n xs := by
  intro v base ty n xs ho hv
  exact owns_blk ho (fun k hk => hoth k (fun e => hv k hk (by rw [e]; rfl)))
 have ho' := (h.o.stored id (strV x)).1
 refine ⟨?_, h.hyb, ?_, keep _ _ _ _ _ h.c h.co, keep _ _ _ _ _ h.n h.no, keep _ _ _ _ _ h.t h.tov, ?_, h.cy, h.ny, h.ty, ?_, h.cn, h.ct, ?_, h.nt, ?_, ?_⟩
 ·exact h.b0.trans ⟨h1, h2, h3, by omega, fun k hk => hoth k (by omega)⟩
 ·rw [hoth yb (fun e => h.oy (by rw [e]; rfl))]
  have e : (st.of.set id x).length = st.of.length := by simp
  rw [e]; exact h.y
 ·have e : (st.of.set id x).length = st.of.length := by simp
  show w'.ownsRow _ _ _ (.slice (some ⟨g, 0, none⟩) (st.of.set id x).length cap) (st.of.set id x).length ((st.of.set id x).map strV)
  rw [e, List.map_set]
  exact owns_blk ho' (fun k _ => by rw [hW])
 ·exact h.oy
 ·exact h.co
 ·exact h.no
 ·exact h.tov
end Go.Proofs.YtpicaknklgccoaaGreatDoor
namespace Go.Proofs.YtpicaknklgccoaaGreatDoor
open Go.RowKit
theorem fin_big {id p : Nat} {x : Ty × TSt} (h0 : x.2.e = 0) (h : 63 < x.1.size) : fin id p x = (x.1, { e := 6, at_ := p, of := x.2.of.set id x.1.txt }) := by
 simp only [fin, errS]; rw [if_pos ⟨h0, h⟩, if_pos h0]
theorem fin_small {id p : Nat} {x : Ty × TSt} (h : ¬ (x.2.e = 0 ∧ 63 < x.1.size)) : fin id p x = (x.1, { x.2 with of := x.2.of.set id x.1.txt }) := by
 simp only [fin]; rw [if_neg h]
set_option maxRecDepth 100000 in
set_option maxHeartbeats 2000000 in
theorem find_of {w0 : World} {yb : Nat} {cls : List Nat} {t : PT} {f : Nat → Nat → TEnv → TSt → Ty × TSt} (hf : FormOk w0 yb cls t f)
  (heq : ∀ id site env st, tyFind cls t id site env st = fin id t.pl (f id site env st)) (hlen : ∀ id site env st, (f id site env st).2.of.length = st.of.length) (hsize : ∀ id site (env : TEnv) (st : TSt), (∀ x ∈ env, x.2.fit) → (st.e = 0 → ∀ x ∈ env, x.2.size ≤ 63) → (f id site env st).1.fit) : FindOk w0 yb cls t := by
 intro id site b F env st cv nv tv ov w hT hin hid hsite hs1 hs2 henv
 have hfo := hf id site b F env st cv nv tv ov w hT hin hid hsite hs1 hs2 henv
 rw [heq]
 have hl := hlen id site env st
 have hsz := fit_len (hsize id site env st hs1 hs2)
 obtain ⟨ty, hty⟩ : ∃ x, x = f id site env st := ⟨_, rfl⟩
 rw [← hty] at hfo hl hsz ⊢
 obtain ⟨ty, st1⟩ := ty
 simp only at hfo hl hsz ⊢
 have hcp := cnt_pos t
 have hsa := size_any (bs ty.txt)
 rw [bs_toList, size_txt] at hsa
 have hsa' : ∀ w, (bs ty.txt).size ≤ maxLen → Calls Tryz.prog 114 #[.string (bs ty.txt)] w fun e w' => e = .returned (.int .i64 (ty.size : Nat)) ∧ w = w' := fun w h => (hsa w h).mono (fun _ _ h => ⟨h.1, h.2.symm⟩)
 clear hsa
 obtain ⟨op, nm, n, kv, last, hxb⟩ := isT_blk hT
 have hb := blk_lt hxb
 have HXB : Hid _ := hxb
 have hyb := hin.hyb
 have hbs : (bs ty.txt).size ≤ maxLen := by rw [bs_size]; unfold maxLen; omega
 clear hty hxb hs1 hs2 hT hin
 unfold ptr at hfo
 by_cases hbig : st1.e = 0 ∧ 63 < ty.size
 ·obtain ⟨h0, h63⟩ := hbig
  have HFB : Hid _ := fin_big (id := id) (p := t.pl) (x := (ty, st1)) h0 h63
  show Calls _ _ #[Value.pointer (some ⟨yb, 0, none⟩), Value.pointer (some ⟨b, 0, none⟩)] w _
  go_enter Tryz.func71, Tryz.ntmps71
  go_wp2_with (first
   | (go_at_call 113; refine hfo.mono ?_; rintro e w1 ⟨rfl, nv', tv', hg1, hin1⟩; have y4 : w1.cell? ⟨yb, 4, none⟩ = some (.int .i64 0) := (by rw [blk_cell hin1.y]; show some (Value.int .i64 (st1.e : Nat)) = _; rw [h0]; rfl))
   | (go_at_call 114; refine (hsa' _ hbs).mono ?_; rintro e w' ⟨rfl, rfl⟩))
  have her := err_any w1 yb b cv nv' tv' ov kv st1.e st1.at_ 6 op nm t.pl n id last site (by omega) hin1.y (by rw [hin1.b0.block b hb]; exact HXB.out)
  unfold ptr at her
  rw [if_pos h0, if_pos h0] at her
  refine her.mono ?_
  rintro e w2 ⟨rfl, hg2, hy2⟩
  have hinx := hin1.err hg2 hy2
  have hg12 : Fr w w2 yb nv tv ov nv' tv' := hg1.trans (Fr.grown hg2 _ _ _)
  clear hin1 y4 hg2 hy2 her hg1
  have hg1 := hg12
  obtain ⟨st2, hst2⟩ : ∃ st2 : TSt, st2 = { st1 with e := 6, at_ := t.pl } := ⟨_, rfl⟩
  rw [← hst2] at hinx
  have hl2 : st2.of.length = st.of.length := by rw [hst2]; exact hl
  have HS2 : Hid _ := hst2
  clear hst2 h0 h63
  have o1 := hinx.o
  obtain ⟨go, oc, hov⟩ : ∃ go oc, ov = .slice (some ⟨go, 0, none⟩) st2.of.length oc := by
   rcases o1.2 with ⟨_, h⟩ | ⟨g, cap, cur, h, _⟩
   ·omega
   ·exact ⟨_, _, h⟩
  rw [hov] at hinx o1
  have y3 : w2.cell? ⟨yb, 3, none⟩ = some (.slice (some ⟨go, 0, none⟩) st2.of.length oc) := by rw [blk_cell hinx.y]; rfl
  have hbx : w2.heap[b]? = some (.cells (exCells op t.pl nm n kv id last site) 82 (0, 0)) := by rw [hinx.b0.block b hb]; exact HXB.out
  have x5 : w2.cell? ⟨b, 5, none⟩ = some (.int .i64 id) := by rw [blk_cell hbx]; rfl
  have z0 : w2.cell? ⟨go, id, none⟩ = some (strV (st2.of[id]'(by omega))) := by rw [o1.cellAt id (by omega), List.getElem?_map, List.getElem?_eq_getElem (by omega)]; rfl
  have z1 : w2.frozen? ⟨go, id, none⟩ = false := o1.frozenAt id
  have HIN : Hid (TyIn w0 w2 yb cls cv nv' tv' (.slice (some ⟨go, 0, none⟩) st2.of.length oc) env st2) := hinx
  have HOV : Hid _ := hov
  have HFR : Hid _ := hg1
  clear hinx o1 hbx hov hg1
  unfold strV at z0
  go_wp2
  go_region
  go_wp2
  go_ret
  have hse := TyIn.setOf HIN.out id ty.txt (w' := (w2.setCell ⟨go, id, none⟩ (.string (bs ty.txt))).drew) rfl rfl rfl rfl
  rw [HFB.out]
  refine ⟨rfl, nv', tv', HFR.out.trans (Fr.set _ _ _ (by rw [HOV.out]; rfl) rfl), ?_⟩
  rw [HOV.out]
  rw [HS2.out] at hse ⊢
  simpa using hse
 ·have HFB : Hid _ := fin_small (id := id) (p := t.pl) (x := (ty, st1)) hbig
  show Calls _ _ #[Value.pointer (some ⟨yb, 0, none⟩), Value.pointer (some ⟨b, 0, none⟩)] w _
  by_cases h0 : st1.e = 0
  ·have h63 : ty.size ≤ 63 := by omega
   go_enter Tryz.func71, Tryz.ntmps71
   go_wp2_with (first
    | (go_at_call 113; refine hfo.mono ?_; rintro e w1 ⟨rfl, nv', tv', hg1, hin1⟩; have y4 : w1.cell? ⟨yb, 4, none⟩ = some (.int .i64 0) := (by rw [blk_cell hin1.y]; show some (Value.int .i64 (st1.e : Nat)) = _; rw [h0]; rfl))
    | (go_at_call 114; refine (hsa' _ hbs).mono ?_; rintro e w' ⟨rfl, rfl⟩))
   have hinx := hin1
   have hl2 : st1.of.length = st.of.length := hl
   clear hin1 y4 h0
   have o1 := hinx.o
   obtain ⟨go, oc, hov⟩ : ∃ go oc, ov = .slice (some ⟨go, 0, none⟩) st1.of.length oc := by
    rcases o1.2 with ⟨_, h⟩ | ⟨g, cap, cur, h, _⟩
    ·omega
    ·exact ⟨_, _, h⟩
   rw [hov] at hinx o1
   have y3 : w1.cell? ⟨yb, 3, none⟩ = some (.slice (some ⟨go, 0, none⟩) st1.of.length oc) := by rw [blk_cell hinx.y]; rfl
   have hbx : w1.heap[b]? = some (.cells (exCells op t.pl nm n kv id last site) 82 (0, 0)) := by rw [hinx.b0.block b hb]; exact HXB.out
   have x5 : w1.cell? ⟨b, 5, none⟩ = some (.int .i64 id) := by rw [blk_cell hbx]; rfl
   have z0 : w1.cell? ⟨go, id, none⟩ = some (strV (st1.of[id]'(by omega))) := by rw [o1.cellAt id (by omega), List.getElem?_map, List.getElem?_eq_getElem (by omega)]; rfl
   have z1 : w1.frozen? ⟨go, id, none⟩ = false := o1.frozenAt id
   have HIN : Hid (TyIn w0 w1 yb cls cv nv' tv' (.slice (some ⟨go, 0, none⟩) st1.of.length oc) env st1) := hinx
   have HOV : Hid _ := hov
   have HFR : Hid _ := hg1
   clear hinx o1 hbx hov hg1
   unfold strV at z0
   go_wp2
   go_region
   go_wp2
   go_ret
   have hse := TyIn.setOf HIN.out id ty.txt (w' := (w1.setCell ⟨go, id, none⟩ (.string (bs ty.txt))).drew) rfl rfl rfl rfl
   rw [HFB.out]
   refine ⟨rfl, nv', tv', HFR.out.trans (Fr.set _ _ _ (by rw [HOV.out]; rfl) rfl), ?_⟩
   rw [HOV.out]
   simpa using hse
  ·have h0' : ((st1.e : Int) == 0) = false := by rw [beq_eq_false_iff_ne]; omega
   go_enter Tryz.func71, Tryz.ntmps71
   go_wp2_with (first
    | (go_at_call 113; refine hfo.mono ?_; rintro e w1 ⟨rfl, nv', tv', hg1, hin1⟩; have y4 : w1.cell? ⟨yb, 4, none⟩ = some (.int .i64 st1.e) := (by rw [blk_cell hin1.y]; rfl))
    | (go_at_call 114; refine (hsa' _ hbs).mono ?_; rintro e w' ⟨rfl, rfl⟩))
   have hinx := hin1
   have hl2 : st1.of.length = st.of.length := hl
   clear hin1 y4 h0
   have o1 := hinx.o
   obtain ⟨go, oc, hov⟩ : ∃ go oc, ov = .slice (some ⟨go, 0, none⟩) st1.of.length oc := by
    rcases o1.2 with ⟨_, h⟩ | ⟨g, cap, cur, h, _⟩
    ·omega
    ·exact ⟨_, _, h⟩
   rw [hov] at hinx o1
   have y3 : w1.cell? ⟨yb, 3, none⟩ = some (.slice (some ⟨go, 0, none⟩) st1.of.length oc) := by rw [blk_cell hinx.y]; rfl
   have hbx : w1.heap[b]? = some (.cells (exCells op t.pl nm n kv id last site) 82 (0, 0)) := by rw [hinx.b0.block b hb]; exact HXB.out
   have x5 : w1.cell? ⟨b, 5, none⟩ = some (.int .i64 id) := by rw [blk_cell hbx]; rfl
   have z0 : w1.cell? ⟨go, id, none⟩ = some (strV (st1.of[id]'(by omega))) := by rw [o1.cellAt id (by omega), List.getElem?_map, List.getElem?_eq_getElem (by omega)]; rfl
   have z1 : w1.frozen? ⟨go, id, none⟩ = false := o1.frozenAt id
   have HIN : Hid (TyIn w0 w1 yb cls cv nv' tv' (.slice (some ⟨go, 0, none⟩) st1.of.length oc) env st1) := hinx
   have HOV : Hid _ := hov
   have HFR : Hid _ := hg1
   clear hinx o1 hbx hov hg1
   unfold strV at z0
   go_wp2
   go_region
   go_wp2
   go_ret
   have hse := TyIn.setOf HIN.out id ty.txt (w' := (w1.setCell ⟨go, id, none⟩ (.string (bs ty.txt))).drew) rfl rfl rfl rfl
   rw [HFB.out]
   refine ⟨rfl, nv', tv', HFR.out.trans (Fr.set _ _ _ (by rw [HOV.out]; rfl) rfl), ?_⟩
   rw [HOV.out]
   simpa using hse
structure TyG (w0 w : World) (yb : Nat) (cls : List Nat) (cv nv tv ov : Value) (ns ts : List (List UInt8)) (st : TSt) : Prop where
 b0 : Below w0.heap.size w0 w
 hyb : w0.heap.size ≤ yb
 y : w.heap[yb]? = some (.cells (tyCells cv nv tv ov st.e st.at_) 115 (0, 0))
 c : w.ownsRow w0.heap.size 3 1 cv cls.length (cls.map fun (k : Nat) => Value.int .i64 k)
 n : w.ownsRow w0.heap.size 9 1 nv ns.length (ns.map strV)
 t : w.ownsRow w0.heap.size 9 1 tv ts.length (ts.map strV)
 o : w.ownsRow w0.heap.size 9 1 ov st.of.length (st.of.map strV)
 cy : cv.ownBlock ≠ some yb
 ny : nv.ownBlock ≠ some yb
 ty : tv.ownBlock ≠ some yb
 oy : ov.ownBlock ≠ some yb
 cn : apart cv nv
 ct : apart cv tv
 co : apart cv ov
 nt : apart nv tv
 no : apart nv ov
 tov : apart tv ov
theorem TyIn.toG {w0 w : World} {yb : Nat} {cls : List Nat} {cv nv tv ov : Value} {env : TEnv} {st : TSt} (h : TyIn w0 w yb cls cv nv tv ov env st) : TyG w0 w yb cls cv nv tv ov (env.map (·.1)) (env.map (·.2.txt)) st :=
 ⟨h.b0, h.hyb, h.y, h.c, by rw [List.length_map, List.map_map]; exact h.n, by rw [List.length_map, List.map_map]; exact h.t, h.o, h.cy, h.ny, h.ty, h.oy, h.cn, h.ct, h.co, h.nt, h.no, h.tov⟩
theorem TyG.toIn {w0 w : World} {yb : Nat} {cls : List Nat} {cv nv tv ov : Value} {env : TEnv} {st : TSt} (h : TyG w0 w yb cls cv nv tv ov (env.map (·.1)) (env.map (·.2.txt)) st) : TyIn w0 w yb cls cv nv tv ov env st :=
 ⟨h.b0, h.hyb, h.y, h.c, by have := h.n; rw [List.length_map, List.map_map] at this; exact this, by have := h.t; rw [List.length_map, List.map_map] at this; exact this, h.o, h.cy, h.ny, h.ty, h.oy, h.cn, h.ct, h.co, h.nt, h.no, h.tov⟩
theorem TyG.pushN {w0 w w3 W : World} {yb : Nat} {cls : List Nat} {cv nv tv ov : Value} {ns ts : List (List UInt8)} {st : TSt} {x : List UInt8} {g cap : Nat} {A : Obj}
  (h : TyG w0 w yb cls cv nv tv ov ns ts st) (hg : (w.alloc A).grownBy w3 nv.ownBlock) (ho : w3.ownsRow 0 9 1 (.slice (some ⟨g, 0, none⟩) (ns.length + 1) cap) (ns.length + 1) (ns.map strV ++ [strV x]))
  (hgg : nv.ownBlock = some g ∨ (w.alloc A).heap.size ≤ g) (hW : W = w3.setCell ⟨yb, 1, none⟩ (.slice (some ⟨g, 0, none⟩) (ns.length + 1) cap)) :
  TyG w0 W yb cls cv (.slice (some ⟨g, 0, none⟩) (ns.length + 1) cap) tv ov (ns ++ [x]) ts st ∧ Fr w W yb nv tv ov (.slice (some ⟨g, 0, none⟩) (ns.length + 1) cap) tv := by
 have hb0 := h.b0.size
 have hyl := blk_lt h.y
 have ea : (w.alloc A).heap.size = w.heap.size + 1 := by simp
 have hs3 := hg.size
 rw [ea] at hgg hs3
 have hsW : W.heap.size = w3.heap.size := by rw [hW]; simp [World.setCell]
 have hnlt : ∀ g, nv.ownBlock = some g → w0.heap.size ≤ g ∧ g < w.heap.size := fun g hg => h.n.lt g hg
 have o3 : ∀ b, b < w.heap.size → nv.ownBlock ≠ some b → w3.heap[b]? = w.heap[b]? := by
  intro b hb hn
  rw [hg.block b (by rw [ea]; omega) (fun e => hn e.symm), Below.heap_alloc _ _ _ hb]
 have oW : ∀ b, b < w.heap.size → b ≠ yb → nv.ownBlock ≠ some b → W.heap[b]? = w.heap[b]? := by
  intro b hb hby hn
  rw [hW, blk_other _ _ (by simpa using hby), o3 b hb hn]
 have keep : ∀ (v : Value) (base : Nat) (ty : TypeId) (n : Nat) (xs : List Value), w.ownsRow base ty 1 v n xs → v.ownBlock ≠ some yb → apart v nv → W.ownsRow base ty 1 v n xs := by
  intro v base ty n xs hv h1 h2
  exact owns_blk hv (fun k hk => oW k (hv.lt k hk).2 (fun e => h1 (by rw [← e]; exact hk)) (h2 k hk))
 have hgy : g ≠ yb := by
  intro e
  rcases hgg with hh | hh
  ·exact h.ny (by rw [hh, e])
  ·omega
 have hgb : w0.heap.size ≤ g := by
  rcases hgg with hh | hh
  ·exact (hnlt g hh).1
  ·omega
 have hap : ∀ (v : Value) (base : Nat) (ty : TypeId) (n : Nat) (xs : List Value), w.ownsRow base ty 1 v n xs → apart v nv → apart v (.slice (some ⟨g, 0, none⟩) (ns.length + 1) cap) := by
  intro v base ty n xs hv h2 k hk hk'
  simp only [Value.ownBlock, Option.some.injEq] at hk'
  subst hk'
  rcases hgg with hh | hh
  ·exact h2 _ hk hh
  ·have := (hv.lt _ hk).2; omega
 have hyW : W.heap[yb]? = some (.cells (tyCells cv (.slice (some ⟨g, 0, none⟩) (ns.length + 1) cap) tv ov st.e st.at_) 115 (0, 0)) := by
  rw [hW]
  refine (blk_set (arr := tyCells cv nv tv ov st.e st.at_) ?_ 1 _).trans rfl
  rw [o3 yb hyl h.ny]; exact h.y
 refine ⟨⟨?_, h.hyb, hyW, keep _ _ _ _ _ h.c h.cy h.cn, ?_, keep _ _ _ _ _ h.t h.ty h.nt.symm, keep _ _ _ _ _ h.o h.oy h.no.symm, h.cy, ?_, h.ty, h.oy, hap _ _ _ _ _ h.c h.cn, h.ct, h.co, (hap _ _ _ _ _ h.t h.nt.symm).symm, (hap _ _ _ _ _ h.o h.no.symm).symm, h.tov⟩, ⟨by omega, fun k hk hy hn _ _ => oW k hk hy hn, fun g' hg' => by simp only [Value.ownBlock, Option.some.injEq] at hg'; subst hg'; rcases hgg with e | e; exact Or.inl e; exact Or.inr (by omega), fun _ h => Or.inl h⟩⟩
 ·refine h.b0.trans ⟨?_, ?_, ?_, by omega, fun k hk => oW k (by omega) (by have := h.hyb; omega) (fun e => by have := hnlt k e; omega)⟩
  ·rw [hW]; exact hg.os
  ·rw [hW]; exact hg.tape
  ·rw [hW]; exact hg.output
 ·have e1 : (ns ++ [x]).length = ns.length + 1 := by simp
  have e2 : (ns ++ [x]).map strV = ns.map strV ++ [strV x] := by simp
  rw [e1, e2]
  refine owns_base (owns_blk ho (fun k hk => ?_)) (fun k hk => ?_)
  ·simp only [Value.ownBlock, Option.some.injEq] at hk
   subst hk
   rw [hW, blk_other _ _ (by simpa using hgy)]
  ·simp only [Value.ownBlock, Option.some.injEq] at hk
   subst hk; exact hgb
 ·simp only [Value.ownBlock, ne_eq, Option.some.injEq]; exact hgy
theorem TyG.pushT {w0 w w3 W : World} {yb : Nat} {cls : List Nat} {cv nv tv ov : Value} {ns ts : List (List UInt8)} {st : TSt} {x : List UInt8} {g cap : Nat} {A : Obj}
  (h : TyG w0 w yb cls cv nv tv ov ns ts st) (hg : (w.alloc A).grownBy w3 tv.ownBlock) (ho : w3.ownsRow 0 9 1 (.slice (some ⟨g, 0, none⟩) (ts.length + 1) cap) (ts.length + 1) (ts.map strV ++ [strV x]))
  (hgg : tv.ownBlock = some g ∨ (w.alloc A).heap.size ≤ g) (hW : W = w3.setCell ⟨yb, 2, none⟩ (.slice (some ⟨g, 0, none⟩) (ts.length + 1) cap)) :
  TyG w0 W yb cls cv nv (.slice (some ⟨g, 0, none⟩) (ts.length + 1) cap) ov ns (ts ++ [x]) st ∧ Fr w W yb nv tv ov nv (.slice (some ⟨g, 0, none⟩) (ts.length + 1) cap) := by
 have hb0 := h.b0.size
 have hyl := blk_lt h.y
 have ea : (w.alloc A).heap.size = w.heap.size + 1 := by simp
 have hs3 := hg.size
 rw [ea] at hgg hs3
 have hsW : W.heap.size = w3.heap.size := by rw [hW]; simp [World.setCell]
 have hnlt : ∀ g, tv.ownBlock = some g → w0.heap.size ≤ g ∧ g < w.heap.size := fun g hg => h.t.lt g hg
 have o3 : ∀ b, b < w.heap.size → tv.ownBlock ≠ some b → w3.heap[b]? = w.heap[b]? := by
  intro b hb hn
  rw [hg.block b (by rw [ea]; omega) (fun e => hn e.symm), Below.heap_alloc _ _ _ hb]
 have oW : ∀ b, b < w.heap.size → b ≠ yb → tv.ownBlock ≠ some b → W.heap[b]? = w.heap[b]? := by
  intro b hb hby hn
  rw [hW, blk_other _ _ (by simpa using hby), o3 b hb hn]
 have keep : ∀ (v : Value) (base : Nat) (ty : TypeId) (n : Nat) (xs : List Value), w.ownsRow base ty 1 v n xs → v.ownBlock ≠ some yb → apart v tv → W.ownsRow base ty 1 v n xs := by
  intro v base ty n xs hv h1 h2
  exact owns_blk hv (fun k hk => oW k (hv.lt k hk).2 (fun e => h1 (by rw [← e]; exact hk)) (h2 k hk))
 have hgy : g ≠ yb := by
  intro e
  rcases hgg with hh | hh
  ·exact h.ty (by rw [hh, e])
  ·omega
 have hgb : w0.heap.size ≤ g := by
  rcases hgg with hh | hh
  ·exact (hnlt g hh).1
  ·omega
 have hap : ∀ (v : Value) (base : Nat) (ty : TypeId) (n : Nat) (xs : List Value), w.ownsRow base ty 1 v n xs → apart v tv → apart v (.slice (some ⟨g, 0, none⟩) (ts.length + 1) cap) := by
  intro v base ty n xs hv h2 k hk hk'
  simp only [Value.ownBlock, Option.some.injEq] at hk'
  subst hk'
  rcases hgg with hh | hh
  ·exact h2 _ hk hh
  ·have := (hv.lt _ hk).2; omega
 have hyW : W.heap[yb]? = some (.cells (tyCells cv nv (.slice (some ⟨g, 0, none⟩) (ts.length + 1) cap) ov st.e st.at_) 115 (0, 0)) := by
  rw [hW]
  refine (blk_set (arr := tyCells cv nv tv ov st.e st.at_) ?_ 2 _).trans rfl
  rw [o3 yb hyl h.ty]; exact h.y
 refine ⟨⟨?_, h.hyb, hyW, keep _ _ _ _ _ h.c h.cy h.ct, keep _ _ _ _ _ h.n h.ny h.nt, ?_, keep _ _ _ _ _ h.o h.oy h.tov.symm, h.cy, h.ny, ?_, h.oy, h.cn, hap _ _ _ _ _ h.c h.ct, h.co, hap _ _ _ _ _ h.n h.nt, h.no, (hap _ _ _ _ _ h.o h.tov.symm).symm⟩, ⟨by omega, fun k hk hy _ ht _ => oW k hk hy ht, fun _ h => Or.inl h, fun g' hg' => by simp only [Value.ownBlock, Option.some.injEq] at hg'; subst hg'; rcases hgg with e | e; exact Or.inl e; exact Or.inr (by omega)⟩⟩
 ·refine h.b0.trans ⟨?_, ?_, ?_, by omega, fun k hk => oW k (by omega) (by have := h.hyb; omega) (fun e => by have := hnlt k e; omega)⟩
  ·rw [hW]; exact hg.os
  ·rw [hW]; exact hg.tape
  ·rw [hW]; exact hg.output
 ·have e1 : (ts ++ [x]).length = ts.length + 1 := by simp
  have e2 : (ts ++ [x]).map strV = ts.map strV ++ [strV x] := by simp
  rw [e1, e2]
  refine owns_base (owns_blk ho (fun k hk => ?_)) (fun k hk => ?_)
  ·simp only [Value.ownBlock, Option.some.injEq] at hk
   subst hk
   rw [hW, blk_other _ _ (by simpa using hgy)]
  ·simp only [Value.ownBlock, Option.some.injEq] at hk
   subst hk; exact hgb
 ·simp only [Value.ownBlock, ne_eq, Option.some.injEq]; exact hgy
theorem TyG.popN {w0 w : World} {yb : Nat} {cls : List Nat} {cv tv ov : Value} {ns ts : List (List UInt8)} {st : TSt} {x : List UInt8} {g cap : Nat}
  (h : TyG w0 w yb cls cv (.slice (some ⟨g, 0, none⟩) (ns.length + 1) cap) tv ov (ns ++ [x]) ts st) :
  TyG w0 (w.setCell ⟨yb, 1, none⟩ (.slice (some ⟨g, 0, none⟩) ns.length cap)) yb cls cv (.slice (some ⟨g, 0, none⟩) ns.length cap) tv ov ns ts st := by
 have oth : ∀ b, b ≠ yb → (w.setCell ⟨yb, 1, none⟩ (.slice (some ⟨g, 0, none⟩) ns.length cap)).heap[b]? = w.heap[b]? := fun b hb => blk_other _ _ (by simpa using hb)
 have keep : ∀ (v : Value) (base : Nat) (ty : TypeId) (n : Nat) (xs : List Value), w.ownsRow base ty 1 v n xs → v.ownBlock ≠ some yb → (w.setCell ⟨yb, 1, none⟩ (.slice (some ⟨g, 0, none⟩) ns.length cap)).ownsRow base ty 1 v n xs :=
  fun v base ty n xs hv h1 => owns_blk hv (fun k hk => oth k (fun e => h1 (by rw [← e]; exact hk)))
 have hp : w.ownsRow w0.heap.size 9 1 (.slice (some ⟨g, 0, none⟩) ns.length cap) ns.length (ns.map strV) := by
  refine ownsRow_pop (last := [strV x]) (by simp) ?_
  have := h.n
  simpa using this
 refine ⟨?_, h.hyb, (blk_set h.y 1 _).trans rfl, keep _ _ _ _ _ h.c h.cy, keep _ _ _ _ _ hp h.ny, keep _ _ _ _ _ h.t h.ty, keep _ _ _ _ _ h.o h.oy, h.cy, h.ny, h.ty, h.oy, h.cn, h.ct, h.co, h.nt, h.no, h.tov⟩
 exact h.b0.setCell (p := ⟨yb, 1, none⟩) h.hyb _
theorem TyG.popT {w0 w : World} {yb : Nat} {cls : List Nat} {cv nv ov : Value} {ns ts : List (List UInt8)} {st : TSt} {x : List UInt8} {g cap : Nat}
  (h : TyG w0 w yb cls cv nv (.slice (some ⟨g, 0, none⟩) (ts.length + 1) cap) ov ns (ts ++ [x]) st) :
  TyG w0 (w.setCell ⟨yb, 2, none⟩ (.slice (some ⟨g, 0, none⟩) ts.length cap)) yb cls cv nv (.slice (some ⟨g, 0, none⟩) ts.length cap) ov ns ts st := by
 have oth : ∀ b, b ≠ yb → (w.setCell ⟨yb, 2, none⟩ (.slice (some ⟨g, 0, none⟩) ts.length cap)).heap[b]? = w.heap[b]? := fun b hb => blk_other _ _ (by simpa using hb)
 have keep : ∀ (v : Value) (base : Nat) (ty : TypeId) (n : Nat) (xs : List Value), w.ownsRow base ty 1 v n xs → v.ownBlock ≠ some yb → (w.setCell ⟨yb, 2, none⟩ (.slice (some ⟨g, 0, none⟩) ts.length cap)).ownsRow base ty 1 v n xs :=
  fun v base ty n xs hv h1 => owns_blk hv (fun k hk => oth k (fun e => h1 (by rw [← e]; exact hk)))
 have hp : w.ownsRow w0.heap.size 9 1 (.slice (some ⟨g, 0, none⟩) ts.length cap) ts.length (ts.map strV) := by
  refine ownsRow_pop (last := [strV x]) (by simp) ?_
  have := h.t
  simpa using this
 refine ⟨?_, h.hyb, (blk_set h.y 2 _).trans rfl, keep _ _ _ _ _ h.c h.cy, keep _ _ _ _ _ h.n h.ny, keep _ _ _ _ _ hp h.ty, keep _ _ _ _ _ h.o h.oy, h.cy, h.ny, h.ty, h.oy, h.cn, h.ct, h.co, h.nt, h.no, h.tov⟩
 exact h.b0.setCell (p := ⟨yb, 2, none⟩) h.hyb _
theorem TyG.shapeN {w0 w : World} {yb : Nat} {cls : List Nat} {cv nv tv ov : Value} {ns ts : List (List UInt8)} {st : TSt} (h : TyG w0 w yb cls cv nv tv ov ns ts st) : ∃ a cap, nv = .slice a ns.length cap ∧ (0 < ns.length → ∃ g, a = some ⟨g, 0, none⟩) := by
 rcases h.n.2 with ⟨hv, hn⟩ | ⟨g, cap, cur, hv, _⟩
 ·exact ⟨none, 0, by rw [hv, hn], fun h => by omega⟩
 ·exact ⟨_, cap, hv, fun _ => ⟨g, rfl⟩⟩
theorem TyG.shapeT {w0 w : World} {yb : Nat} {cls : List Nat} {cv nv tv ov : Value} {ns ts : List (List UInt8)} {st : TSt} (h : TyG w0 w yb cls cv nv tv ov ns ts st) : ∃ a cap, tv = .slice a ts.length cap ∧ (0 < ts.length → ∃ g, a = some ⟨g, 0, none⟩) := by
 rcases h.t.2 with ⟨hv, hn⟩ | ⟨g, cap, cur, hv, _⟩
 ·exact ⟨none, 0, by rw [hv, hn], fun h => by omega⟩
 ·exact ⟨_, cap, hv, fun _ => ⟨g, rfl⟩⟩
set_option maxRecDepth 100000 in
set_option maxHeartbeats 2000000 in
theorem under_of {w0 : World} {yb : Nat} {cls : List Nat} {t : PT} (hf : FindOk w0 yb cls t) (id site b : Nat) (F : Nat → Prop) (env : TEnv) (st : TSt) (cv nv tv ov : Value) (w : World) (nm : List UInt8) (ty : Ty)
  (hT : IsT w0 F t id site b) (hin : TyIn w0 w yb cls cv nv tv ov env st) (hid : id + t.cnt ≤ st.of.length) (hsite : site + t.prs ≤ cls.length) (hs1 : ∀ x ∈ env, x.2.fit) (hs2 : st.e = 0 → ∀ x ∈ env, x.2.size ≤ 63)
  (ht1 : ty.fit) (ht2 : st.e = 0 → ty.size ≤ 63) (henv : env.length + 1 + t.cnt ≤ 9000) :
  Calls Tryz.prog 143 #[ptr yb, .string (bs nm), .string (bs ty.txt), ptr b] w fun v w' => v = .returned (.string (bs (tyFind cls t id site (env ++ [(nm, ty)]) st).1.txt)) ∧
   ∃ nv' tv', Fr w w' yb nv tv ov nv' tv' ∧ TyIn w0 w' yb cls cv nv' tv' ov env (tyFind cls t id site (env ++ [(nm, ty)]) st).2 := by
 obtain ⟨i0, hi, hz0, hz1, hz2⟩ := info_parts Tryz.infoStr
 have HI : Hid _ := hi
 have HZ0 : Hid _ := hz0
 have HZ1 : Hid _ := hz1
 have HZ2 : Hid _ := hz2
 have hG := hin.toG
 have HG : Hid _ := hG
 obtain ⟨na, nc, hnv, _⟩ := hG.shapeN
 obtain ⟨ta, tc, htv, _⟩ := hG.shapeT
 rw [List.length_map] at hnv htv
 have hy := hG.y
 have hyl := blk_lt hy
 rw [hnv, htv] at hy
 have y1 : w.cell? ⟨yb, 1, none⟩ = some (.slice na env.length nc) := by rw [blk_cell hy]; rfl
 have y2 : w.cell? ⟨yb, 2, none⟩ = some (.slice ta env.length tc) := by rw [blk_cell hy]; rfl
 have f1 : w.frozen? ⟨yb, 1, none⟩ = false := blk_free hy 1
 have f2 : w.frozen? ⟨yb, 2, none⟩ = false := blk_free hy 2
 have HNV : Hid _ := hnv
 have HTV : Hid _ := htv
 have hown : w.ownsRow 0 9 1 (.slice na env.length nc) env.length (env.map fun x => strV x.1) := by
  rw [← hnv]; exact owns_base hin.n (fun _ _ => Nat.zero_le _)
 have HOWN : Hid (w.ownsRow 0 9 1 (.slice na env.length nc) env.length (env.map fun x => strV x.1)) := hown
 clear hi hz0 hz1 hz2 hG hy hown hnv htv
 show Calls _ _ #[Value.pointer (some ⟨yb, 0, none⟩), _, _, Value.pointer (some ⟨b, 0, none⟩)] w _
 go_enter Tryz.func143, Tryz.ntmps143
 go_wp2_with (at_builtin; go_must (refine app_own _ rfl (.tmp 20) (.tmp 22) 68 rfl 9 i0 _ 1 16 Tryz.undStrs HI.out HZ0.out HZ1.out HZ2.out rfl (by decide) (.slice na env.length nc) env.length (env.map fun x => strV x.1) rfl (HOWN.out.alloc _) ⟨w.heap.size, 0, none⟩ 1 1 [strV nm] rfl rfl ?d1 ?d2 (by decide) ?d3 ?d4 ?_))
 case d1 =>
  intro j' u hj'
  match j', hj' with
  | 0, hj' => simp at hj'; subst hj'; simp [Addr.add, strV]
  | j' + 1, hj' => simp at hj'
 case d2 => intro u hu; simp at hu; subst hu; rfl
 case d3 => unfold maxLen; omega
 case d4 => omega
 intro g1 c1 w3 ho3 hg3 hgg3
 have hp1 := TyG.pushN (x := nm) (W := w3.setCell ⟨yb, 1, none⟩ (.slice (some ⟨g1, 0, none⟩) (env.length + 1) c1)) HG.out (by rw [HNV.out]; exact hg3) (by rw [List.length_map, List.map_map]; exact ho3) (by rw [HNV.out]; simpa using hgg3) (by rw [List.length_map])
 rw [List.length_map] at hp1
 obtain ⟨hG1, hs1'⟩ := hp1
 have HG1 : Hid (TyG w0 (w3.setCell ⟨yb, 1, none⟩ (.slice (some ⟨g1, 0, none⟩) (env.length + 1) c1)) yb cls cv (.slice (some ⟨g1, 0, none⟩) (env.length + 1) c1) tv ov (env.map (·.1) ++ [nm]) (env.map (·.2.txt)) st) := hG1
 have hy3 : w3.heap[yb]? = some (.cells (tyCells cv nv tv ov st.e st.at_) 115 (0, 0)) := by
  rw [hg3.block yb (by simp; omega) (fun e => HG.out.ny (by rw [HNV.out]; exact e.symm)), Below.heap_alloc _ _ _ hyl]; exact HG.out.y
 have hyl3 := blk_lt hy3
 rw [HNV.out, HTV.out] at hy3
 have y13 : w3.cell? ⟨yb, 1, none⟩ = some (.slice na env.length nc) := by rw [blk_cell hy3]; rfl
 have y23 : w3.cell? ⟨yb, 2, none⟩ = some (.slice ta env.length tc) := by rw [blk_cell hy3]; rfl
 have f13 : w3.frozen? ⟨yb, 1, none⟩ = false := blk_free hy3 1
 have f23 : w3.frozen? ⟨yb, 2, none⟩ = false := blk_free hy3 2
 have hown2 : (w3.setCell ⟨yb, 1, none⟩ (.slice (some ⟨g1, 0, none⟩) (env.length + 1) c1)).ownsRow 0 9 1 (.slice ta env.length tc) env.length (env.map fun x => strV x.2.txt) := by
  have h := owns_base (base' := 0) hG1.t (fun _ _ => Nat.zero_le _)
  rw [List.length_map, List.map_map, HTV.out] at h; exact h
 have HOWN2 : Hid ((w3.setCell ⟨yb, 1, none⟩ (.slice (some ⟨g1, 0, none⟩) (env.length + 1) c1)).ownsRow 0 9 1 (.slice ta env.length tc) env.length (env.map fun x => strV x.2.txt)) := hown2
 have hsz3 : (w3.setCell ⟨yb, 1, none⟩ (.slice (some ⟨g1, 0, none⟩) (env.length + 1) c1)).heap.size = w3.heap.size := by simp [World.setCell]
 have HSZ3 : Hid _ := hsz3
 clear ho3 hg3 hgg3 hG1 hy3 hown2 y1 y2 f1 f2 hsz3
 go_wp2_with (at_builtin; go_must (refine app_own _ rfl (.tmp 30) (.tmp 32) 68 rfl 9 i0 _ 1 16 Tryz.undStrs HI.out HZ0.out HZ1.out HZ2.out rfl (by decide) (.slice ta env.length tc) env.length (env.map fun x => strV x.2.txt) rfl (HOWN2.out.alloc _) ⟨w3.heap.size, 0, none⟩ 1 1 [strV ty.txt] rfl rfl ?e1 ?e2 (by decide) ?e3 ?e4 ?_))
 case e1 =>
  intro j' u hj'
  match j', hj' with
  | 0, hj' =>
   simp only [List.getElem?_cons_zero, Option.some.injEq] at hj'
   subst hj'
   exact (World.cell?_alloc_at _ _ _ _ HSZ3.out.symm).trans rfl
  | j' + 1, hj' => simp at hj'
 case e2 => intro u hu; simp at hu; subst hu; rfl
 case e3 => unfold maxLen; omega
 case e4 => omega
 intro g2 c2 w5 ho5 hg5 hgg5
 have hp2 := TyG.pushT (x := ty.txt) (W := w5.setCell ⟨yb, 2, none⟩ (.slice (some ⟨g2, 0, none⟩) (env.length + 1) c2)) HG1.out (by rw [HTV.out]; exact hg5) (by rw [List.length_map, List.map_map]; exact ho5) (by rw [HTV.out]; rcases hgg5 with h | h; exact Or.inl h; exact Or.inr (by rw [World.size_alloc, HSZ3.out]; exact h)) (by rw [List.length_map])
 rw [List.length_map] at hp2
 obtain ⟨hG2, hs2'⟩ := hp2
 have hin2 : TyIn w0 (w5.setCell ⟨yb, 2, none⟩ (.slice (some ⟨g2, 0, none⟩) (env.length + 1) c2)) yb cls cv (.slice (some ⟨g1, 0, none⟩) (env.length + 1) c1) (.slice (some ⟨g2, 0, none⟩) (env.length + 1) c2) ov (env ++ [(nm, ty)]) st := by
  apply TyG.toIn
  rw [List.map_append, List.map_append]; exact hG2
 have hfo := hf id site b F (env ++ [(nm, ty)]) st cv _ _ ov _ hT hin2 hid hsite (by intro x hx; rcases List.mem_append.1 hx with h | h; exact hs1 x h; simp at h; subst h; exact ht1) (by intro h0 x hx; rcases List.mem_append.1 hx with h | h; exact hs2 h0 x h; simp at h; subst h; exact ht2 h0) (by simp; omega)
 have hy5 : w5.heap[yb]? = some (.cells (tyCells cv (.slice (some ⟨g1, 0, none⟩) (env.length + 1) c1) tv ov st.e st.at_) 115 (0, 0)) := by
  rw [hg5.block yb (by rw [World.size_alloc, HSZ3.out]; omega) (fun e => HG.out.ty (by rw [HTV.out]; exact e.symm)), Below.heap_alloc _ _ _ (by rw [HSZ3.out]; exact hyl3)]; exact HG1.out.y
 rw [HTV.out] at hy5
 have y15 : w5.cell? ⟨yb, 1, none⟩ = some (.slice (some ⟨g1, 0, none⟩) (env.length + 1) c1) := by rw [blk_cell hy5]; rfl
 have y25 : w5.cell? ⟨yb, 2, none⟩ = some (.slice ta env.length tc) := by rw [blk_cell hy5]; rfl
 have f25 : w5.frozen? ⟨yb, 2, none⟩ = false := blk_free hy5 2
 have hsw := hs1'.trans hs2'
 clear ho5 hg5 hgg5 hG2 hin2 hy5 y13 y23 f13 f23
 unfold ptr at hfo
 go_wp2_with fail
 refine hfo.mono ?_
 rintro e w7 ⟨rfl, nv7, tv7, hs7, hin7⟩
 have hG7 := hin7.toG
 rw [List.map_append, List.map_append] at hG7
 obtain ⟨na7, nc7, hnv7, hna7⟩ := hG7.shapeN
 obtain ⟨ta7, tc7, htv7, hta7⟩ := hG7.shapeT
 obtain ⟨g7, hg7⟩ := hna7 (by simp)
 obtain ⟨g8, hg8⟩ := hta7 (by simp)
 have el : (env.map (fun x => x.1) ++ List.map (fun x => x.1) [(nm, ty)]).length = env.length + 1 := by simp
 have el2 : (env.map (fun x => x.2.txt) ++ List.map (fun x => x.2.txt) [(nm, ty)]).length = env.length + 1 := by simp
 rw [el, hg7] at hnv7
 rw [el2, hg8] at htv7
 have hcap7 : env.length + 1 ≤ nc7 := by
  have h := hG7.n.2
  rw [hnv7, el] at h
  rcases h with ⟨h, _⟩ | ⟨g, cap, cur, h, _, _, h3, _⟩
  ·cases h
  ·simp only [Value.slice.injEq] at h; omega
 have hcap8 : env.length + 1 ≤ tc7 := by
  have h := hG7.t.2
  rw [htv7, el2] at h
  rcases h with ⟨h, _⟩ | ⟨g, cap, cur, h, _, _, h3, _⟩
  ·cases h
  ·simp only [Value.slice.injEq] at h; omega
 rw [hnv7, htv7] at hG7
 obtain ⟨st7, hst7⟩ : ∃ st7, st7 = (tyFind cls t id site (env ++ [(nm, ty)]) st).2 := ⟨_, rfl⟩
 rw [← hst7] at hG7
 have y17 : w7.cell? ⟨yb, 1, none⟩ = some (.slice (some ⟨g7, 0, none⟩) (env.length + 1) nc7) := by rw [blk_cell hG7.y]; rfl
 have y27 : w7.cell? ⟨yb, 2, none⟩ = some (.slice (some ⟨g8, 0, none⟩) (env.length + 1) tc7) := by rw [blk_cell hG7.y]; rfl
 have f17 : w7.frozen? ⟨yb, 1, none⟩ = false := blk_free hG7.y 1
 have f27 : w7.frozen? ⟨yb, 2, none⟩ = false := blk_free hG7.y 2
 have hP : TyG w0 ((w7.setCell ⟨yb, 1, none⟩ (.slice (some ⟨g7, 0, none⟩) env.length nc7)).setCell ⟨yb, 2, none⟩ (.slice (some ⟨g8, 0, none⟩) env.length tc7)) yb cls cv (.slice (some ⟨g7, 0, none⟩) env.length nc7) (.slice (some ⟨g8, 0, none⟩) env.length tc7) ov (env.map (·.1)) (env.map (·.2.txt)) st7 := by
  have l1 : (env.map (fun x => x.1)).length = env.length := by simp
  have l2 : (env.map (fun x => x.2.txt)).length = env.length := by simp
  have q1 := TyG.popN (ns := env.map (fun x => x.1)) (x := nm) (g := g7) (cap := nc7) (by rw [l1]; exact hG7)
  have q2 := TyG.popT (ts := env.map (fun x => x.2.txt)) (x := ty.txt) (g := g8) (cap := tc7) (by rw [l2]; exact q1)
  rw [l1, l2] at q2
  exact q2
 have HP : Hid _ := hP
 have HST : Hid _ := hst7
 have hs8 := hsw.trans hs7
 rw [hnv7, htv7] at hs8
 have HS7 : Hid _ := hs8
 clear hs8 hs1' hs2' hP hst7 hG7 hin7 hs7 hnv7 htv7 hna7 hta7 hg7 hg8 el el2 y15 y25 f25 hfo hsw
 go_wp2
 go_ret
 refine ⟨rfl, .slice (some ⟨g7, 0, none⟩) env.length nc7, .slice (some ⟨g8, 0, none⟩) env.length tc7, ?_, ?_⟩
 ·have h := HS7.out
  have g1 := (Fr.grown (yb := yb) (gr_set w7 ⟨yb, 1, none⟩ (.slice (some ⟨g7, 0, none⟩) env.length nc7)) (.slice (some ⟨g7, 0, none⟩) (env.length + 1) nc7) (.slice (some ⟨g8, 0, none⟩) (env.length + 1) tc7) ov)
  have g2 := (Fr.grown (yb := yb) (gr_set (w7.setCell ⟨yb, 1, none⟩ (.slice (some ⟨g7, 0, none⟩) env.length nc7)) ⟨yb, 2, none⟩ (.slice (some ⟨g8, 0, none⟩) env.length tc7)) (.slice (some ⟨g7, 0, none⟩) (env.length + 1) nc7) (.slice (some ⟨g8, 0, none⟩) (env.length + 1) tc7) ov)
  have h2 := (h.trans g1).trans g2
  exact ⟨h2.size, h2.blk, h2.n, h2.t⟩
 rw [← HST.out]
 exact HP.out.toIn
end Go.Proofs.YtpicaknklgccoaaGreatDoor
