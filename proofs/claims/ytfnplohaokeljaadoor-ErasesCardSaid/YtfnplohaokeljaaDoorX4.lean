import Derived.Test.YtfnplohaokeljaaDoorX2
import Derived.Test.YtfnplohaokeljaaDoorX3
namespace Go.Proofs.YtfnplohaokeljaaDoor
open Go.RowKit
open Go.Lib (decDigits)

mutual
theorem PT.ind {P : PT → Prop} (h1 : ∀ p s, P (.num p s)) (h2 : ∀ p s, P (.name p s)) (h3 : ∀ p k nm rg kids, (∀ x ∈ kids, P x) → P (.node p k nm rg kids)) : ∀ t, P t
  | .num p s => h1 p s
  | .name p s => h2 p s
  | .node p k nm rg kids => h3 p k nm rg kids (PT.indL h1 h2 h3 kids)
theorem PT.indL {P : PT → Prop} (h1 : ∀ p s, P (.num p s)) (h2 : ∀ p s, P (.name p s)) (h3 : ∀ p k nm rg kids, (∀ x ∈ kids, P x) → P (.node p k nm rg kids)) : ∀ l : List PT, ∀ x ∈ l, P x
  | [] => fun x hx => by simp at hx
  | t :: r => fun x hx => by
    have ht := PT.ind h1 h2 h3 t
    have hr := PT.indL h1 h2 h3 r
    rcases List.mem_cons.1 hx with h | h
    · rw [h]; exact ht
    · exact hr x h
end

/-- what is told of one expression -/
structure Rec where
  op : List UInt8
  p : Nat
  nm : List UInt8
  n : Int
  id : Nat
  last : Nat
  site : Nat
mutual
/-- an expression and all in it, in their order -/
def PT.recs : PT → Nat → Nat → List Rec
  | .num p s, id, site => [⟨numB, p, [], valueL s, id, id, site⟩]
  | .name p s, id, site => [⟨nameB, p, s, 0, id, id, site⟩]
  | .node p k nm rg kids, id, site => recsL kids (id + 1) (site + if k = .pair then 1 else 0) ++ [⟨k.bytes, p, nm, valueL rg, id, id + cntL kids, site⟩]
def recsL : List PT → Nat → Nat → List Rec
  | [], _, _ => []
  | t :: r, id, site => t.recs id site ++ recsL r (id + t.cnt) (site + t.prs)
end

def isRec (w : World) (b : Nat) (r : Rec) : Prop := ∃ kv, w.heap[b]? = some (.cells (exCells r.op r.p r.nm r.n kv r.id r.last r.site) 53 (0, 0))
def areRecs (w : World) : List Nat → List Rec → Prop
  | [], [] => True
  | b :: bl, r :: rl => isRec w b r ∧ areRecs w bl rl
  | _, _ => False

theorem areRecs.append {w : World} : ∀ {bl bl' : List Nat} {rl rl' : List Rec}, areRecs w bl rl → areRecs w bl' rl' → areRecs w (bl ++ bl') (rl ++ rl')
  | [], _, [], _, _, h => h
  | b :: bl, _, r :: rl, _, h, h' => ⟨h.1, areRecs.append h.2 h'⟩
  | [], _, _ :: _, _, h, _ => by simp [areRecs] at h
  | _ :: _, _, [], _, h, _ => by simp [areRecs] at h
theorem areRecs.len {w : World} : ∀ {bl : List Nat} {rl : List Rec}, areRecs w bl rl → bl.length = rl.length
  | [], [], _ => rfl
  | b :: bl, r :: rl, h => by simp [areRecs.len h.2]
  | [], _ :: _, h => by simp [areRecs] at h
  | _ :: _, [], h => by simp [areRecs] at h

mutual
theorem recs_len : ∀ (t : PT) (id site : Nat), (t.recs id site).length = t.cnt
  | .num _ _, _, _ => rfl
  | .name _ _, _, _ => rfl
  | .node _ _ _ _ kids, id, site => by simp [PT.recs, PT.cnt, recsL_len kids]; omega
theorem recsL_len : ∀ (ts : List PT) (id site : Nat), (recsL ts id site).length = cntL ts
  | [], _, _ => rfl
  | t :: r, id, site => by simp [recsL, cntL, recs_len t, recsL_len r]
end

theorem recsL_snoc (ts : List PT) (t : PT) : ∀ (id site : Nat), recsL (ts ++ [t]) id site = recsL ts id site ++ t.recs (id + cntL ts) (site + prsL ts) := by
  induction ts with
  | nil => intro id site; simp [recsL, cntL, prsL]
  | cons a r ih => intro id site; simp only [List.cons_append, recsL, ih, cntL, prsL, List.append_assoc]; rw [Nat.add_assoc, Nat.add_assoc]

theorem IsTs.at {w : World} {F : Nat → Prop} : ∀ (ts : List PT) (id site : Nat) (bl : List Nat), IsTs w F ts id site bl → ∀ (i : Nat) (t : PT), ts[i]? = some t → ∃ b, bl[i]? = some b ∧ IsT w F t (id + cntL (ts.take i)) (site + prsL (ts.take i)) b
  | [], _, _, [], _, i, t, ht => by simp at ht
  | a :: ts, id, site, c :: bl, h, 0, t, ht => by
    simp only [IsTs] at h
    simp at ht; subst ht
    exact ⟨c, rfl, by simpa [cntL, prsL] using h.1⟩
  | a :: ts, id, site, c :: bl, h, i + 1, t, ht => by
    simp only [IsTs] at h
    obtain ⟨b, hb, hT⟩ := IsTs.at ts _ _ bl h.2 i t (by simpa using ht)
    refine ⟨b, by simpa using hb, ?_⟩
    simp only [List.take_succ_cons, cntL, prsL]
    rw [← Nat.add_assoc, ← Nat.add_assoc]; exact hT
  | [], _, _, _ :: _, h, _, _, _ => by simp [IsTs] at h
  | _ :: _, _, _, [], h, _, _, _ => by simp [IsTs] at h

theorem cnt_pos (t : PT) : 0 < t.cnt := by cases t <;> simp [PT.cnt] <;> omega
theorem len_cntL (ts : List PT) : ts.length ≤ cntL ts := by
  induction ts with
  | nil => simp
  | cons a r ih => have := cnt_pos a; simp [cntL]; omega
theorem cntL_take (ts : List PT) (i : Nat) : cntL (ts.take i) ≤ cntL ts := by
  induction ts generalizing i with
  | nil => simp
  | cons a r ih => cases i with
    | zero => simp [cntL]
    | succ i => have := ih i; simp [cntL]; omega

theorem owns_size {w w' : World} {base : Nat} {e : TypeId} {size : Nat} {v : Value} {n : Nat} {xs : List Value} (h : w.ownsRow base e size v n xs) (hb : ∀ k, k < w.heap.size → w'.heap[k]? = w.heap[k]?) : w'.ownsRow base e size v n xs :=
  owns_blk h (fun k hk => hb k (h.lt k hk).2)
mutual
theorem IsT.same {w w' : World} {F : Nat → Prop} (hk : ∀ k, k < w.heap.size → w'.heap[k]? = w.heap[k]?) : ∀ (t : PT) (id site b : Nat), IsT w F t id site b → IsT w' F t id site b
  | .num p s, id, site, b, h => by
    simp only [IsT] at h ⊢
    exact ⟨h.1, by rw [hk _ (blk_lt h.2)]; exact h.2⟩
  | .name p s, id, site, b, h => by
    simp only [IsT] at h ⊢
    exact ⟨h.1, by rw [hk _ (blk_lt h.2)]; exact h.2⟩
  | .node p k nm rg kids, id, site, b, h => by
    simp only [IsT] at h ⊢
    obtain ⟨hb, kv, bl, h1, h2, h3, h4⟩ := h
    exact ⟨hb, kv, bl, by rw [hk _ (blk_lt h1)]; exact h1, h2, owns_size h3 hk, IsTs.same hk kids _ _ bl h4⟩
theorem IsTs.same {w w' : World} {F : Nat → Prop} (hk : ∀ k, k < w.heap.size → w'.heap[k]? = w.heap[k]?) : ∀ (ts : List PT) (id site : Nat) (bl : List Nat), IsTs w F ts id site bl → IsTs w' F ts id site bl
  | [], _, _, [], _ => by simp [IsTs]
  | t :: ts, id, site, b :: bl, h => by
    simp only [IsTs] at h ⊢
    exact ⟨IsT.same hk t _ _ b h.1, IsTs.same hk ts _ _ bl h.2⟩
  | [], _, _, _ :: _, h => by simp [IsTs] at h
  | _ :: _, _, _, [], h => by simp [IsTs] at h
end
theorem areRecs.same {w w' : World} (hk : ∀ k, k < w.heap.size → w'.heap[k]? = w.heap[k]?) : ∀ {bl : List Nat} {rl : List Rec}, areRecs w bl rl → areRecs w' bl rl
  | [], [], _ => True.intro
  | b :: bl, r :: rl, h => by
    obtain ⟨⟨kv, h1⟩, h2⟩ := h
    exact ⟨⟨kv, by rw [hk b (blk_lt h1)]; exact h1⟩, areRecs.same hk h2⟩
  | [], _ :: _, h => by simp [areRecs] at h
  | _ :: _, [], h => by simp [areRecs] at h

theorem Tryd.undPtrs : Tryd.prog.underlying 50 = some (.slice 39) := by kernel_rfl
theorem Tryd.infoPtr : (Tryd.prog.info? 39).map (fun i => (i.zero, i.size, i.bytes)) = some (some (.pointer none), 1, 8) := by kernel_rfl

set_option maxRecDepth 100000 in
set_option maxHeartbeats 1000000 in
theorem all_leaf (b : Nat) (w0 w : World) (op : List UInt8) (p : Nat) (nm : List UInt8) (n : Int) (id site : Nat) (hb : w0.heap[b]? = some (.cells (exCells op p nm n (.slice none 0 0) id id site) 53 (0, 0))) (hw0 : Below w0.heap.size w0 w) :
    Calls Tryd.prog 33 #[ptr b] w fun e w' => ∃ g cap bl, e = .returned (.slice (some ⟨g, 0, none⟩) bl.length cap) ∧ Below w.heap.size w w' ∧ w'.ownsRow w.heap.size 39 1 (.slice (some ⟨g, 0, none⟩) bl.length cap) bl.length (bl.map ptr) ∧ areRecs w0 bl [⟨op, p, nm, n, id, id, site⟩] := by
  obtain ⟨i0, hi, hz0, hz1, hz2⟩ := info_parts Tryd.infoPtr
  have HI : Hid _ := hi
  have HZ0 : Hid _ := hz0
  have HZ1 : Hid _ := hz1
  have HZ2 : Hid _ := hz2
  clear hi hz0 hz1 hz2
  have hbw := blk_lt hb
  have x4 : w.cell? ⟨b, 4, none⟩ = some (.slice none 0 0) := (hw0.cell (p := ⟨b, 4, none⟩) hbw).trans (by rw [blk_cell hb]; rfl)
  have HB : Hid _ := hb
  clear hb
  show Calls _ _ #[Value.pointer (some ⟨b, 0, none⟩)] w _
  go_enter Tryd.func33, Tryd.ntmps33
  go_wp2
  refine wp_loop_rounds 1 ?_
  rw [rounds_succ]
  go_wp2_with (at_builtin; refine wpList_append_own _ rfl (.tmp 26) (.tmp 28) 50 rfl w.heap.size 39 i0 _ 1 8 Tryd.undPtrs HI.out HZ0.out HZ1.out HZ2.out rfl (by decide) _ 0 [] rfl (World.ownsRow_nil _ _ _ _) ⟨w.heap.size, 0, none⟩ 1 1 [ptr b] rfl rfl ?d1 ?d2 ?d3 ?d4 ?d5 ?_)
  case d1 =>
    intro j' u hj'
    match j', hj' with
    | 0, hj' => simp at hj'; subst hj'; simp [Addr.add, ptr]
    | j' + 1, hj' => simp at hj'
  case d2 => intro u hu; simp at hu; subst hu; rfl
  case d3 => unfold maxLen; omega
  case d4 => omega
  case d5 => simp
  intro v' w2 hown' hgrow hnil
  have HB2 : Hid (Below w.heap.size w w2) := ((Below.refl w.heap.size w).alloc (Nat.le_refl _) _).grown hgrow (by simp) (fun b hb => by simp [Value.ownBlock] at hb)
  obtain ⟨g2, cap2, hv2⟩ : ∃ g2 cap2, v' = .slice (some ⟨g2, 0, none⟩) 1 cap2 := by
    rcases hown'.2 with ⟨h, h'⟩ | ⟨g', cap', cur, h, _⟩
    · omega
    · exact ⟨_, _, h⟩
  rw [hv2] at hown' ⊢
  have HO3 : Hid (w2.ownsRow w.heap.size 39 1 (.slice (some ⟨g2, 0, none⟩) 1 cap2) 1 [ptr b]) := hown'
  clear hown' hgrow hnil hv2
  go_wp2
  go_ret
  exact ⟨g2, cap2, [b], rfl, HB2.out, HO3.out, ⟨_, HB.out⟩, True.intro⟩

set_option maxRecDepth 100000 in
set_option maxHeartbeats 1000000 in
theorem all_any (t : PT) : ∀ (id site b : Nat) (F : Nat → Prop) (w0 : World), t.cnt ≤ 9000 → IsT w0 F t id site b → ∀ w : World, Below w0.heap.size w0 w → Calls Tryd.prog 33 #[ptr b] w fun e w' =>
    ∃ g cap bl, e = .returned (.slice (some ⟨g, 0, none⟩) bl.length cap) ∧ Below w.heap.size w w' ∧ w'.ownsRow w.heap.size 39 1 (.slice (some ⟨g, 0, none⟩) bl.length cap) bl.length (bl.map ptr) ∧ areRecs w0 bl (t.recs id site) := by
  induction t using PT.ind with
  | h1 p s =>
    intro id site b F w0 hcnt hT w hw0
    simp only [IsT] at hT
    exact all_leaf b w0 w _ _ _ _ _ _ hT.2 hw0
  | h2 p s =>
    intro id site b F w0 hcnt hT w hw0
    simp only [IsT] at hT
    exact all_leaf b w0 w _ _ _ _ _ _ hT.2 hw0
  | h3 p k nm rg kids ih =>
    intro id site b F w0 hcnt hT w hw0
    obtain ⟨i0, hi, hz0, hz1, hz2⟩ := info_parts Tryd.infoPtr
    have HI : Hid _ := hi
    have HZ0 : Hid _ := hz0
    have HZ1 : Hid _ := hz1
    have HZ2 : Hid _ := hz2
    clear hi hz0 hz1 hz2
    simp only [IsT] at hT
    obtain ⟨hFb, kv, bl, hb, hF, hkv, hts⟩ := hT
    have hbw := blk_lt hb
    have hw0s := hw0.size
    have x4 : w.cell? ⟨b, 4, none⟩ = some kv := (hw0.cell (p := ⟨b, 4, none⟩) hbw).trans (by rw [blk_cell hb]; rfl)
    have hkl : kids.length ≤ 9000 := by have := len_cntL kids; simp only [PT.cnt] at hcnt; omega
    have hlen := IsTs.len _ _ _ _ hts
    have hcl : cntL kids ≤ 9000 := by simp only [PT.cnt] at hcnt; omega
    obtain ⟨va, vc, hvk⟩ : ∃ va vc, kv = .slice va kids.length vc := by
      rcases hkv.2 with ⟨h, h'⟩ | ⟨g, cap, cur, h, _⟩
      · exact ⟨none, 0, by rw [h, h']⟩
      · exact ⟨_, _, h⟩
    have HB : Hid _ := hb
    have HKV : Hid (w0.ownsRow 0 39 1 kv kids.length (bl.map ptr)) := hkv
    have HTS : Hid _ := hts
    have HV : Hid _ := hvk
    rw [hvk] at x4
    clear hb hkv hts hvk
    show Calls _ _ #[Value.pointer (some ⟨b, 0, none⟩)] w _
    go_enter Tryd.func33, Tryd.ntmps33
    go_wp2
    go_loopw [3, 4] (fun v i wr => ∃ (j : Nat) (cl : List Nat), j ≤ kids.length ∧ i = .int .i64 j ∧ Below w.heap.size w wr ∧ wr.ownsRow w.heap.size 39 1 v cl.length (cl.map ptr) ∧ areRecs w0 cl (recsL (kids.take j) (id + 1) (site + if k = .pair then 1 else 0))) (fun _ i _ => kids.length - (intOf i).toNat)
    case atStart => exact ⟨0, [], by omega, rfl, Below.refl _ _, World.ownsRow_nil _ _ _ _, by simp [recsL, areRecs]⟩
    case round =>
      obtain ⟨j, cl, hj, rfl, hbel, hown, hrec⟩ := hrel
      have x4r : wr.cell? ⟨b, 4, none⟩ = some (.slice va kids.length vc) := (hbel.cell (p := ⟨b, 4, none⟩) (by simp only; omega)).trans x4
      by_cases hlt : j < kids.length
      · obtain ⟨x, hx⟩ : ∃ x, kids[j]? = some x := ⟨kids[j], List.getElem?_eq_getElem hlt⟩
        obtain ⟨bx, hbx, hTx⟩ := IsTs.at _ _ _ _ HTS.out j x hx
        have hcx : x.cnt ≤ 9000 := by
          have h1 := cntL_take kids (j + 1)
          rw [List.take_add_one, hx] at h1
          simp only [Option.toList_some] at h1
          rw [cntL_snoc] at h1
          omega
        have hcj : cl.length ≤ 9000 := by
          rw [hrec.len, recsL_len]
          have h1 := cntL_take kids j
          omega
        obtain ⟨gk, hgk⟩ : ∃ gk, va = some ⟨gk, 0, none⟩ := by
          have h := HKV.out.2
          rw [HV.out] at h
          rcases h with ⟨h, h'⟩ | ⟨g, cap, cur, h, _⟩
          · omega
          · simp only [Value.slice.injEq] at h; exact ⟨_, h.1⟩
        have hkc : w0.cell? ⟨gk, j, none⟩ = some (ptr bx) := by
          have h : w0.ownsRow 0 39 1 (.slice (some ⟨gk, 0, none⟩) kids.length vc) kids.length (bl.map ptr) := by rw [← hgk, ← HV.out]; exact HKV.out
          rw [h.cellAt j (by omega)]; simp [hbx]
        have hgkw : gk < w0.heap.size := World.block_lt_of_cell? _ _ hkc
        have hkcr : wr.cell? ⟨gk, j, none⟩ = some (ptr bx) := ((hw0.trans (hbel.mono hw0s)).cell (p := ⟨gk, j, none⟩) hgkw).trans hkc
        subst hgk
        unfold ptr at hkcr
        have hca := ih x (List.mem_of_getElem? hx) _ _ bx F w0 hcx hTx wr (hw0.trans (hbel.mono hw0s))
        unfold ptr at hca
        have HX : Hid _ := hx
        have HREC : Hid _ := hrec
        have HOWN : Hid (wr.ownsRow w.heap.size 39 1 _ cl.length (cl.map ptr)) := hown
        have HTX : Hid _ := hTx
        have hsz := hbel.size
        clear hx hbx hTx hkc hrec hown
        have hcs : cl.length + x.cnt ≤ 9000 := by
          have h0 := hcl
          have h1 := cntL_take kids (j + 1)
          rw [List.take_add_one, HX.out] at h1
          simp only [Option.toList_some] at h1
          rw [cntL_snoc] at h1
          have h2 := HREC.out.len
          rw [recsL_len] at h2
          omega
        go_wp2_with (first
          | (go_at_call 33; refine hca.mono ?_; rintro e w1 ⟨g1, cap1, bl1, rfl, hb1, ho1, hr1⟩)
          | (at_builtin; go_must (refine wpList_append_own _ rfl (.tmp 23) (.tmp 24) 50 rfl w.heap.size 39 i0 _ 1 8 Tryd.undPtrs HI.out HZ0.out HZ1.out HZ2.out rfl (by decide) _ cl.length (cl.map ptr) rfl (owns_below HOWN.out hb1) ⟨g1, 0, none⟩ bl1.length cap1 (bl1.map ptr) rfl ?d0 ?d1 ?d2 ?d3 ?d4 ?d5 ?_)))
        case d0 => simp
        case d1 => intro j' u hj'; exact ho1.cells rfl j' u hj'
        case d2 => intro u hu; simp at hu; obtain ⟨_, _, rfl⟩ := hu; rfl
        case d3 => have := hr1.len; rw [recs_len] at this; unfold maxLen; omega
        case d4 => have := hr1.len; rw [recs_len] at this; omega
        case d5 => have := hb1.size; omega
        intro v' w2 hown' hgrow hnil
        have hsz1 := hb1.size
        have HB2 : Hid (Below w.heap.size w w2) := (hbel.trans (hb1.mono hsz)).grown hgrow (by omega) (fun b hb => (World.ownsRow.lt HOWN.out b hb).1)
        have HO3 : Hid (w2.ownsRow w.heap.size 39 1 v' (cl.length + bl1.length) (cl.map ptr ++ bl1.map ptr)) := hown'
        have HR3 : Hid (areRecs w0 (cl ++ bl1) (recsL (kids.take j) (id + 1) (site + if k = .pair then 1 else 0) ++ x.recs (id + 1 + cntL (kids.take j)) (site + (if k = .pair then 1 else 0) + prsL (kids.take j)))) := by
          exact areRecs.append HREC.out hr1
        clear hown' hgrow hnil ho1 hr1 hb1
        go_wp2
        go_roundw
        case rel =>
          refine ⟨j + 1, cl ++ bl1, by omega, by go_num, HB2.out, ?_, ?_⟩
          · have := HO3.out; simpa using this
          · have := HR3.out
            rw [List.take_add_one, HX.out]
            simp only [Option.toList_some]
            rw [recsL_snoc]; exact this
        case measure => simp [intOf]; omega
      · have hcj : cl.length ≤ 9000 := by
          rw [hrec.len, recsL_len]
          have h1 := cntL_take kids j
          omega
        have HREC : Hid _ := hrec
        have HOWN : Hid (wr.ownsRow w.heap.size 39 1 _ cl.length (cl.map ptr)) := hown
        have hsz := hbel.size
        clear hrec hown
        go_wp2_with (at_builtin; refine wpList_append_own _ rfl (.tmp 26) (.tmp 28) 50 rfl w.heap.size 39 i0 _ 1 8 Tryd.undPtrs HI.out HZ0.out HZ1.out HZ2.out rfl (by decide) _ cl.length (cl.map ptr) rfl (HOWN.out.alloc _) ⟨wr.heap.size, 0, none⟩ 1 1 [ptr b] rfl rfl ?d1 ?d2 ?d3 ?d4 ?d5 ?_)
        case d1 =>
          intro j' u hj'
          match j', hj' with
          | 0, hj' => simp at hj'; subst hj'; simp [Addr.add, ptr]
          | j' + 1, hj' => simp at hj'
        case d2 => intro u hu; simp at hu; subst hu; rfl
        case d3 => unfold maxLen; omega
        case d4 => omega
        case d5 => simp; omega
        intro v' w2 hown' hgrow hnil
        have HB2 : Hid (Below w.heap.size w w2) := (hbel.alloc hsz _).grown hgrow (by simp; omega) (fun b hb => (World.ownsRow.lt HOWN.out b hb).1)
        obtain ⟨g2, cap2, hv2⟩ : ∃ g2 cap2, v' = .slice (some ⟨g2, 0, none⟩) (cl.length + 1) cap2 := by
          rcases hown'.2 with ⟨h, h'⟩ | ⟨g', cap', cur, h, _⟩
          · omega
          · exact ⟨_, _, h⟩
        rw [hv2] at hown' ⊢
        have HO3 : Hid (w2.ownsRow w.heap.size 39 1 (.slice (some ⟨g2, 0, none⟩) (cl.length + 1) cap2) (cl.length + 1) (cl.map ptr ++ [ptr b])) := hown'
        clear hown' hgrow hnil hv2
        go_wp2
        go_ret
        refine ⟨g2, cap2, cl ++ [b], by simp, HB2.out, ?_, ?_⟩
        · have := HO3.out; simpa using this
        · have hj' : j = kids.length := by omega
          have hr := HREC.out
          rw [hj', List.take_length] at hr
          simp only [PT.recs]
          exact areRecs.append hr ⟨⟨_, HB.out⟩, True.intro⟩
end Go.Proofs.YtfnplohaokeljaaDoor
