import Derived.Test.YtpicaknklgccoaaDoorX4
import Derived.Test.YtpicaknklgccoaaDoorX5
import Derived.Test.YtpicaknklgccoaaDoorX3
import Derived.BigRegion
import Derived.BigQuiet
import Derived.Deep.QuietTactic
import Derived.Deep.CutRange
namespace Go.Proofs.YtpicaknklgccoaaDoor
open Go.RowKit
open Go.Lib (decDigits)

mutual
theorem PT.ind {P : PT → Prop} (h1 : ∀ p s, P (.num p s)) (h2 : ∀ p s, P (.name p s)) (h3 : ∀ p k nm rg kids, (∀ x ∈ kids, P x) → P (.node p k nm rg kids)) : ∀ t, P t
  | .num p s => h1 p s
  | .name p s => h2 p s
  | .node p k nm rg kids => h3 p k nm rg kids (PT.indL h1 h2 h3 kids)
theorem PT.indL {P : PT → Prop} (h1 : ∀ p s, P (.num p s)) (h2 : ∀ p s, P (.name p s)) (h3 : ∀ p k nm rg kids, (∀ x ∈ kids, P x) → P (.node p k nm rg kids)) : ∀ l : List PT, ∀ x ∈ l, P x
  | [] => fun x hx => by simp at hx
  | t :: r => fun x hx => by
    have ht := PT.ind h1 h2 h3 t
    have hr := PT.indL h1 h2 h3 r
    rcases List.mem_cons.1 hx with h | h
    · rw [h]; exact ht
    · exact hr x h
end

/-- what is told of one expression -/
structure Rec where
  op : List UInt8
  p : Nat
  nm : List UInt8
  n : Int
  id : Nat
  last : Nat
  site : Nat
mutual
/-- an expression and all in it, in their order -/
def PT.recs : PT → Nat → Nat → List Rec
  | .num p s, id, site => [⟨numB, p, [], valueL s, id, id, site⟩]
  | .name p s, id, site => [⟨nameB, p, s, 0, id, id, site⟩]
  | .node p k nm rg kids, id, site => recsL kids (id + 1) (site + if k = .pair then 1 else 0) ++ [⟨k.bytes, p, nm, valueL rg, id, id + cntL kids, site⟩]
def recsL : List PT → Nat → Nat → List Rec
  | [], _, _ => []
  | t :: r, id, site => t.recs id site ++ recsL r (id + t.cnt) (site + t.prs)
end

def isRec (w : World) (b : Nat) (r : Rec) : Prop := ∃ kv, w.heap[b]? = some (.cells (exCells r.op r.p r.nm r.n kv r.id r.last r.site) 52 (0, 0))
def areRecs (w : World) : List Nat → List Rec → Prop
  | [], [] => True
  | b :: bl, r :: rl => isRec w b r ∧ areRecs w bl rl
  | _, _ => False

theorem areRecs.append {w : World} : ∀ {bl bl' : List Nat} {rl rl' : List Rec}, areRecs w bl rl → areRecs w bl' rl' → areRecs w (bl ++ bl') (rl ++ rl')
  | [], _, [], _, _, h => h
  | b :: bl, _, r :: rl, _, h, h' => ⟨h.1, areRecs.append h.2 h'⟩
  | [], _, _ :: _, _, h, _ => by simp [areRecs] at h
  | _ :: _, _, [], _, h, _ => by simp [areRecs] at h
theorem areRecs.len {w : World} : ∀ {bl : List Nat} {rl : List Rec}, areRecs w bl rl → bl.length = rl.length
  | [], [], _ => rfl
  | b :: bl, r :: rl, h => by simp [areRecs.len h.2]
  | [], _ :: _, h => by simp [areRecs] at h
  | _ :: _, [], h => by simp [areRecs] at h

mutual
theorem recs_len : ∀ (t : PT) (id site : Nat), (t.recs id site).length = t.cnt
  | .num _ _, _, _ => rfl
  | .name _ _, _, _ => rfl
  | .node _ _ _ _ kids, id, site => by simp [PT.recs, PT.cnt, recsL_len kids]; omega
theorem recsL_len : ∀ (ts : List PT) (id site : Nat), (recsL ts id site).length = cntL ts
  | [], _, _ => rfl
  | t :: r, id, site => by simp [recsL, cntL, recs_len t, recsL_len r]
end

theorem recsL_snoc (ts : List PT) (t : PT) : ∀ (id site : Nat), recsL (ts ++ [t]) id site = recsL ts id site ++ t.recs (id + cntL ts) (site + prsL ts) := by
  induction ts with
  | nil => intro id site; simp [recsL, cntL, prsL]
  | cons a r ih => intro id site; simp only [List.cons_append, recsL, ih, cntL, prsL, List.append_assoc]; rw [Nat.add_assoc, Nat.add_assoc]

theorem IsTs.at {w : World} {F : Nat → Prop} : ∀ (ts : List PT) (id site : Nat) (bl : List Nat), IsTs w F ts id site bl → ∀ (i : Nat) (t : PT), ts[i]? = some t → ∃ b, bl[i]? = some b ∧ IsT w F t (id + cntL (ts.take i)) (site + prsL (ts.take i)) b
  | [], _, _, [], _, i, t, ht => by simp at ht
  | a :: ts, id, site, c :: bl, h, 0, t, ht => by
    simp only [IsTs] at h
    simp at ht; subst ht
    exact ⟨c, rfl, by simpa [cntL, prsL] using h.1⟩
  | a :: ts, id, site, c :: bl, h, i + 1, t, ht => by
    simp only [IsTs] at h
    obtain ⟨b, hb, hT⟩ := IsTs.at ts _ _ bl h.2 i t (by simpa using ht)
    refine ⟨b, by simpa using hb, ?_⟩
    simp only [List.take_succ_cons, cntL, prsL]
    rw [← Nat.add_assoc, ← Nat.add_assoc]; exact hT
  | [], _, _, _ :: _, h, _, _, _ => by simp [IsTs] at h
  | _ :: _, _, _, [], h, _, _, _ => by simp [IsTs] at h

theorem cnt_pos (t : PT) : 0 < t.cnt := by cases t <;> simp [PT.cnt] <;> omega
theorem len_cntL (ts : List PT) : ts.length ≤ cntL ts := by
  induction ts with
  | nil => simp
  | cons a r ih => have := cnt_pos a; simp [cntL]; omega
theorem cntL_take (ts : List PT) (i : Nat) : cntL (ts.take i) ≤ cntL ts := by
  induction ts generalizing i with
  | nil => simp
  | cons a r ih => cases i with
    | zero => simp [cntL]
    | succ i => have := ih i; simp [cntL]; omega

theorem owns_size {w w' : World} {base : Nat} {e : TypeId} {size : Nat} {v : Value} {n : Nat} {xs : List Value} (h : w.ownsRow base e size v n xs) (hb : ∀ k, k < w.heap.size → w'.heap[k]? = w.heap[k]?) : w'.ownsRow base e size v n xs :=
  owns_blk h (fun k hk => hb k (h.lt k hk).2)
mutual
theorem IsT.same {w w' : World} {F : Nat → Prop} (hk : ∀ k, k < w.heap.size → w'.heap[k]? = w.heap[k]?) : ∀ (t : PT) (id site b : Nat), IsT w F t id site b → IsT w' F t id site b
  | .num p s, id, site, b, h => by
    simp only [IsT] at h ⊢
    exact ⟨h.1, by rw [hk _ (blk_lt h.2)]; exact h.2⟩
  | .name p s, id, site, b, h => by
    simp only [IsT] at h ⊢
    exact ⟨h.1, by rw [hk _ (blk_lt h.2)]; exact h.2⟩
  | .node p k nm rg kids, id, site, b, h => by
    simp only [IsT] at h ⊢
    obtain ⟨hb, kv, bl, h1, h2, h3, h4⟩ := h
    exact ⟨hb, kv, bl, by rw [hk _ (blk_lt h1)]; exact h1, h2, owns_size h3 hk, IsTs.same hk kids _ _ bl h4⟩
theorem IsTs.same {w w' : World} {F : Nat → Prop} (hk : ∀ k, k < w.heap.size → w'.heap[k]? = w.heap[k]?) : ∀ (ts : List PT) (id site : Nat) (bl : List Nat), IsTs w F ts id site bl → IsTs w' F ts id site bl
  | [], _, _, [], _ => by simp [IsTs]
  | t :: ts, id, site, b :: bl, h => by
    simp only [IsTs] at h ⊢
    exact ⟨IsT.same hk t _ _ b h.1, IsTs.same hk ts _ _ bl h.2⟩
  | [], _, _, _ :: _, h => by simp [IsTs] at h
  | _ :: _, _, _, [], h => by simp [IsTs] at h
end
theorem areRecs.same {w w' : World} (hk : ∀ k, k < w.heap.size → w'.heap[k]? = w.heap[k]?) : ∀ {bl : List Nat} {rl : List Rec}, areRecs w bl rl → areRecs w' bl rl
  | [], [], _ => True.intro
  | b :: bl, r :: rl, h => by
    obtain ⟨⟨kv, h1⟩, h2⟩ := h
    exact ⟨⟨kv, by rw [hk b (blk_lt h1)]; exact h1⟩, areRecs.same hk h2⟩
  | [], _ :: _, h => by simp [areRecs] at h
  | _ :: _, [], h => by simp [areRecs] at h

theorem Tryd.undPtrs : Tryd.prog.underlying 48 = some (.slice 39) := by kernel_rfl
theorem Tryd.infoPtr : (Tryd.prog.info? 39).map (fun i => (i.zero, i.size, i.bytes)) = some (some (.pointer none), 1, 8) := by kernel_rfl

set_option maxRecDepth 100000 in
set_option maxHeartbeats 1000000 in
theorem all_leaf (b : Nat) (w0 w : World) (op : List UInt8) (p : Nat) (nm : List UInt8) (n : Int) (id site : Nat) (hb : w0.heap[b]? = some (.cells (exCells op p nm n (.slice none 0 0) id id site) 52 (0, 0))) (hw0 : Below w0.heap.size w0 w) :
    Calls Tryd.prog 22 #[ptr b] w fun e w' => ∃ g cap bl, e = .returned (.slice (some ⟨g, 0, none⟩) bl.length cap) ∧ Below w.heap.size w w' ∧ w'.ownsRow w.heap.size 39 1 (.slice (some ⟨g, 0, none⟩) bl.length cap) bl.length (bl.map ptr) ∧ areRecs w0 bl [⟨op, p, nm, n, id, id, site⟩] := by
  obtain ⟨i0, hi, hz0, hz1, hz2⟩ := info_parts Tryd.infoPtr
  have HI : Hid _ := hi
  have HZ0 : Hid _ := hz0
  have HZ1 : Hid _ := hz1
  have HZ2 : Hid _ := hz2
  clear hi hz0 hz1 hz2
  have hbw := blk_lt hb
  have x4 : w.cell? ⟨b, 4, none⟩ = some (.slice none 0 0) := (hw0.cell (p := ⟨b, 4, none⟩) hbw).trans (by rw [blk_cell hb]; rfl)
  have HB : Hid _ := hb
  clear hb
  show Calls _ _ #[Value.pointer (some ⟨b, 0, none⟩)] w _
  go_enter Tryd.func22, Tryd.ntmps22
  go_wp2
  refine wp_loop_rounds 1 ?_
  rw [rounds_succ]
  go_wp2_with (at_builtin; refine wpList_append_own _ rfl (.tmp 26) (.tmp 28) 48 rfl w.heap.size 39 i0 _ 1 8 Tryd.undPtrs HI.out HZ0.out HZ1.out HZ2.out rfl (by decide) _ 0 [] rfl (World.ownsRow_nil _ _ _ _) ⟨w.heap.size, 0, none⟩ 1 1 [ptr b] rfl rfl ?d1 ?d2 ?d3 ?d4 ?d5 ?_)
  case d1 =>
    intro j' u hj'
    match j', hj' with
    | 0, hj' => simp at hj'; subst hj'; simp [Addr.add, ptr]
    | j' + 1, hj' => simp at hj'
  case d2 => intro u hu; simp at hu; subst hu; rfl
  case d3 => unfold maxLen; omega
  case d4 => omega
  case d5 => simp
  intro v' w2 hown' hgrow hnil
  have HB2 : Hid (Below w.heap.size w w2) := ((Below.refl w.heap.size w).alloc (Nat.le_refl _) _).grown hgrow (by simp) (fun b hb => by simp [Value.ownBlock] at hb)
  obtain ⟨g2, cap2, hv2⟩ : ∃ g2 cap2, v' = .slice (some ⟨g2, 0, none⟩) 1 cap2 := by
    rcases hown'.2 with ⟨h, h'⟩ | ⟨g', cap', cur, h, _⟩
    · omega
    · exact ⟨_, _, h⟩
  rw [hv2] at hown' ⊢
  have HO3 : Hid (w2.ownsRow w.heap.size 39 1 (.slice (some ⟨g2, 0, none⟩) 1 cap2) 1 [ptr b]) := hown'
  clear hown' hgrow hnil hv2
  go_wp2
  go_ret
  exact ⟨g2, cap2, [b], rfl, HB2.out, HO3.out, ⟨_, HB.out⟩, True.intro⟩

set_option maxRecDepth 100000 in
set_option maxHeartbeats 1000000 in
theorem all_any (t : PT) : ∀ (id site b : Nat) (F : Nat → Prop) (w0 : World), t.cnt ≤ 9000 → IsT w0 F t id site b → ∀ w : World, Below w0.heap.size w0 w → Calls Tryd.prog 22 #[ptr b] w fun e w' =>
    ∃ g cap bl, e = .returned (.slice (some ⟨g, 0, none⟩) bl.length cap) ∧ Below w.heap.size w w' ∧ w'.ownsRow w.heap.size 39 1 (.slice (some ⟨g, 0, none⟩) bl.length cap) bl.length (bl.map ptr) ∧ areRecs w0 bl (t.recs id site) := by
  induction t using PT.ind with
  | h1 p s =>
    intro id site b F w0 hcnt hT w hw0
    simp only [IsT] at hT
    exact all_leaf b w0 w _ _ _ _ _ _ hT.2 hw0
  | h2 p s =>
    intro id site b F w0 hcnt hT w hw0
    simp only [IsT] at hT
    exact all_leaf b w0 w _ _ _ _ _ _ hT.2 hw0
  | h3 p k nm rg kids ih =>
    intro id site b F w0 hcnt hT w hw0
    obtain ⟨i0, hi, hz0, hz1, hz2⟩ := info_parts Tryd.infoPtr
    have HI : Hid _ := hi
    have HZ0 : Hid _ := hz0
    have HZ1 : Hid _ := hz1
    have HZ2 : Hid _ := hz2
    clear hi hz0 hz1 hz2
    simp only [IsT] at hT
    obtain ⟨hFb, kv, bl, hb, hF, hkv, hts⟩ := hT
    have hbw := blk_lt hb
    have hw0s := hw0.size
    have x4 : w.cell? ⟨b, 4, none⟩ = some kv := (hw0.cell (p := ⟨b, 4, none⟩) hbw).trans (by rw [blk_cell hb]; rfl)
    have hkl : kids.length ≤ 9000 := by have := len_cntL kids; simp only [PT.cnt] at hcnt; omega
    have hlen := IsTs.len _ _ _ _ hts
    have hcl : cntL kids ≤ 9000 := by simp only [PT.cnt] at hcnt; omega
    obtain ⟨va, vc, hvk⟩ : ∃ va vc, kv = .slice va kids.length vc := by
      rcases hkv.2 with ⟨h, h'⟩ | ⟨g, cap, cur, h, _⟩
      · exact ⟨none, 0, by rw [h, h']⟩
      · exact ⟨_, _, h⟩
    have HB : Hid _ := hb
    have HKV : Hid (w0.ownsRow 0 39 1 kv kids.length (bl.map ptr)) := hkv
    have HTS : Hid _ := hts
    have HV : Hid _ := hvk
    rw [hvk] at x4
    clear hb hkv hts hvk
    show Calls _ _ #[Value.pointer (some ⟨b, 0, none⟩)] w _
    go_enter Tryd.func22, Tryd.ntmps22
    go_wp2
    go_loopw [3, 4] (fun v i wr => ∃ (j : Nat) (cl : List Nat), j ≤ kids.length ∧ i = .int .i64 j ∧ Below w.heap.size w wr ∧ wr.ownsRow w.heap.size 39 1 v cl.length (cl.map ptr) ∧ areRecs w0 cl (recsL (kids.take j) (id + 1) (site + if k = .pair then 1 else 0))) (fun _ i _ => kids.length - (intOf i).toNat)
    case atStart => exact ⟨0, [], by omega, rfl, Below.refl _ _, World.ownsRow_nil _ _ _ _, by simp [recsL, areRecs]⟩
    case round =>
      obtain ⟨j, cl, hj, rfl, hbel, hown, hrec⟩ := hrel
      have x4r : wr.cell? ⟨b, 4, none⟩ = some (.slice va kids.length vc) := (hbel.cell (p := ⟨b, 4, none⟩) (by simp only; omega)).trans x4
      by_cases hlt : j < kids.length
      · obtain ⟨x, hx⟩ : ∃ x, kids[j]? = some x := ⟨kids[j], List.getElem?_eq_getElem hlt⟩
        obtain ⟨bx, hbx, hTx⟩ := IsTs.at _ _ _ _ HTS.out j x hx
        have hcx : x.cnt ≤ 9000 := by
          have h1 := cntL_take kids (j + 1)
          rw [List.take_add_one, hx] at h1
          simp only [Option.toList_some] at h1
          rw [cntL_snoc] at h1
          omega
        have hcj : cl.length ≤ 9000 := by
          rw [hrec.len, recsL_len]
          have h1 := cntL_take kids j
          omega
        obtain ⟨gk, hgk⟩ : ∃ gk, va = some ⟨gk, 0, none⟩ := by
          have h := HKV.out.2
          rw [HV.out] at h
          rcases h with ⟨h, h'⟩ | ⟨g, cap, cur, h, _⟩
          · omega
          · simp only [Value.slice.injEq] at h; exact ⟨_, h.1⟩
        have hkc : w0.cell? ⟨gk, j, none⟩ = some (ptr bx) := by
          have h : w0.ownsRow 0 39 1 (.slice (some ⟨gk, 0, none⟩) kids.length vc) kids.length (bl.map ptr) := by rw [← hgk, ← HV.out]; exact HKV.out
          rw [h.cellAt j (by omega)]; simp [hbx]
        have hgkw : gk < w0.heap.size := World.block_lt_of_cell? _ _ hkc
        have hkcr : wr.cell? ⟨gk, j, none⟩ = some (ptr bx) := ((hw0.trans (hbel.mono hw0s)).cell (p := ⟨gk, j, none⟩) hgkw).trans hkc
        subst hgk
        unfold ptr at hkcr
        have hca := ih x (List.mem_of_getElem? hx) _ _ bx F w0 hcx hTx wr (hw0.trans (hbel.mono hw0s))
        unfold ptr at hca
        have HX : Hid _ := hx
        have HREC : Hid _ := hrec
        have HOWN : Hid (wr.ownsRow w.heap.size 39 1 _ cl.length (cl.map ptr)) := hown
        have HTX : Hid _ := hTx
        have hsz := hbel.size
        clear hx hbx hTx hkc hrec hown
        have hcs : cl.length + x.cnt ≤ 9000 := by
          have h0 := hcl
          have h1 := cntL_take kids (j + 1)
          rw [List.take_add_one, HX.out] at h1
          simp only [Option.toList_some] at h1
          rw [cntL_snoc] at h1
          have h2 := HREC.out.len
          rw [recsL_len] at h2
          omega
        go_wp2_with (first
          | (go_at_call 22; refine hca.mono ?_; rintro e w1 ⟨g1, cap1, bl1, rfl, hb1, ho1, hr1⟩)
          | (at_builtin; go_must (refine wpList_append_own _ rfl (.tmp 23) (.tmp 24) 48 rfl w.heap.size 39 i0 _ 1 8 Tryd.undPtrs HI.out HZ0.out HZ1.out HZ2.out rfl (by decide) _ cl.length (cl.map ptr) rfl (owns_below HOWN.out hb1) ⟨g1, 0, none⟩ bl1.length cap1 (bl1.map ptr) rfl ?d0 ?d1 ?d2 ?d3 ?d4 ?d5 ?_)))
        case d0 => simp
        case d1 => intro j' u hj'; exact ho1.cells rfl j' u hj'
        case d2 => intro u hu; simp at hu; obtain ⟨_, _, rfl⟩ := hu; rfl
        case d3 => have := hr1.len; rw [recs_len] at this; unfold maxLen; omega
        case d4 => have := hr1.len; rw [recs_len] at this; omega
        case d5 => have := hb1.size; omega
        intro v' w2 hown' hgrow hnil
        have hsz1 := hb1.size
        have HB2 : Hid (Below w.heap.size w w2) := (hbel.trans (hb1.mono hsz)).grown hgrow (by omega) (fun b hb => (World.ownsRow.lt HOWN.out b hb).1)
        have HO3 : Hid (w2.ownsRow w.heap.size 39 1 v' (cl.length + bl1.length) (cl.map ptr ++ bl1.map ptr)) := hown'
        have HR3 : Hid (areRecs w0 (cl ++ bl1) (recsL (kids.take j) (id + 1) (site + if k = .pair then 1 else 0) ++ x.recs (id + 1 + cntL (kids.take j)) (site + (if k = .pair then 1 else 0) + prsL (kids.take j)))) := by
          exact areRecs.append HREC.out hr1
        clear hown' hgrow hnil ho1 hr1 hb1
        go_wp2
        go_roundw
        case rel =>
          refine ⟨j + 1, cl ++ bl1, by omega, by go_num, HB2.out, ?_, ?_⟩
          · have := HO3.out; simpa using this
          · have := HR3.out
            rw [List.take_add_one, HX.out]
            simp only [Option.toList_some]
            rw [recsL_snoc]; exact this
        case measure => simp [intOf]; omega
      · have hcj : cl.length ≤ 9000 := by
          rw [hrec.len, recsL_len]
          have h1 := cntL_take kids j
          omega
        have HREC : Hid _ := hrec
        have HOWN : Hid (wr.ownsRow w.heap.size 39 1 _ cl.length (cl.map ptr)) := hown
        have hsz := hbel.size
        clear hrec hown
        go_wp2_with (at_builtin; refine wpList_append_own _ rfl (.tmp 26) (.tmp 28) 48 rfl w.heap.size 39 i0 _ 1 8 Tryd.undPtrs HI.out HZ0.out HZ1.out HZ2.out rfl (by decide) _ cl.length (cl.map ptr) rfl (HOWN.out.alloc _) ⟨wr.heap.size, 0, none⟩ 1 1 [ptr b] rfl rfl ?d1 ?d2 ?d3 ?d4 ?d5 ?_)
        case d1 =>
          intro j' u hj'
          match j', hj' with
          | 0, hj' => simp at hj'; subst hj'; simp [Addr.add, ptr]
          | j' + 1, hj' => simp at hj'
        case d2 => intro u hu; simp at hu; subst hu; rfl
        case d3 => unfold maxLen; omega
        case d4 => omega
        case d5 => simp; omega
        intro v' w2 hown' hgrow hnil
        have HB2 : Hid (Below w.heap.size w w2) := (hbel.alloc hsz _).grown hgrow (by simp; omega) (fun b hb => (World.ownsRow.lt HOWN.out b hb).1)
        obtain ⟨g2, cap2, hv2⟩ : ∃ g2 cap2, v' = .slice (some ⟨g2, 0, none⟩) (cl.length + 1) cap2 := by
          rcases hown'.2 with ⟨h, h'⟩ | ⟨g', cap', cur, h, _⟩
          · omega
          · exact ⟨_, _, h⟩
        rw [hv2] at hown' ⊢
        have HO3 : Hid (w2.ownsRow w.heap.size 39 1 (.slice (some ⟨g2, 0, none⟩) (cl.length + 1) cap2) (cl.length + 1) (cl.map ptr ++ [ptr b])) := hown'
        clear hown' hgrow hnil hv2
        go_wp2
        go_ret
        refine ⟨g2, cap2, cl ++ [b], by simp, HB2.out, ?_, ?_⟩
        · have := HO3.out; simpa using this
        · have hj' : j = kids.length := by omega
          have hr := HREC.out
          rw [hj', List.take_length] at hr
          simp only [PT.recs]
          exact areRecs.append hr ⟨⟨_, HB.out⟩, True.intro⟩
end Go.Proofs.YtpicaknklgccoaaDoor

namespace Go.Proofs.YtpicaknklgccoaaDoor
open Go.RowKit
open Go.Lib (decDigits)

def strV (l : List UInt8) : Value := .string (bs l)
/-- two slices do not lie in one block -/
def apart (u v : Value) : Prop := ∀ g, u.ownBlock = some g → v.ownBlock ≠ some g
theorem apart.symm {u v : Value} (h : apart u v) : apart v u := fun g hg hu => h g hu hg

/-- how a Typing lies in memory -/
structure TyIn (w0 w : World) (yb : Nat) (cls : List Nat) (cv nv tv ov : Value) (env : TEnv) (st : TSt) : Prop where
  b0 : Below w0.heap.size w0 w
  hyb : w0.heap.size ≤ yb
  y : w.heap[yb]? = some (.cells (tyCells cv nv tv ov st.e st.at_) 55 (0, 0))
  c : w.ownsRow w0.heap.size 3 1 cv cls.length (cls.map fun (k : Nat) => Value.int .i64 k)
  n : w.ownsRow w0.heap.size 9 1 nv env.length (env.map fun x => strV x.1)
  t : w.ownsRow w0.heap.size 9 1 tv env.length (env.map fun x => strV x.2.txt)
  o : w.ownsRow w0.heap.size 9 1 ov st.of.length (st.of.map strV)
  cy : cv.ownBlock ≠ some yb
  ny : nv.ownBlock ≠ some yb
  ty : tv.ownBlock ≠ some yb
  oy : ov.ownBlock ≠ some yb
  cn : apart cv nv
  ct : apart cv tv
  co : apart cv ov
  nt : apart nv tv
  no : apart nv ov
  tov : apart tv ov

/-- what a call on a Typing leaves alone; where its rows lie now -/
structure Fr (w w' : World) (yb : Nat) (nv tv ov nv' tv' : Value) : Prop where
  size : w.heap.size ≤ w'.heap.size
  blk : ∀ k, k < w.heap.size → k ≠ yb → nv.ownBlock ≠ some k → tv.ownBlock ≠ some k → ov.ownBlock ≠ some k → w'.heap[k]? = w.heap[k]?
  n : ∀ g, nv'.ownBlock = some g → nv.ownBlock = some g ∨ w.heap.size ≤ g
  t : ∀ g, tv'.ownBlock = some g → tv.ownBlock = some g ∨ w.heap.size ≤ g
theorem Fr.refl (w : World) (yb : Nat) (nv tv ov : Value) : Fr w w yb nv tv ov nv tv := ⟨Nat.le_refl _, fun _ _ _ _ _ _ => rfl, fun _ h => Or.inl h, fun _ h => Or.inl h⟩
theorem Fr.trans {w w1 w2 : World} {yb : Nat} {nv tv ov nv1 tv1 nv2 tv2 : Value} (h : Fr w w1 yb nv tv ov nv1 tv1) (h' : Fr w1 w2 yb nv1 tv1 ov nv2 tv2) : Fr w w2 yb nv tv ov nv2 tv2 := by
  refine ⟨Nat.le_trans h.size h'.size, ?_, ?_, ?_⟩
  · intro k hk hy hn ht ho
    rw [h'.blk k (Nat.lt_of_lt_of_le hk h.size) hy (fun e => by rcases h.n k e with e | e; exact hn e; omega) (fun e => by rcases h.t k e with e | e; exact ht e; omega) ho]
    exact h.blk k hk hy hn ht ho
  · intro g hg
    rcases h'.n g hg with e | e
    · exact h.n g e
    · exact Or.inr (Nat.le_trans h.size e)
  · intro g hg
    rcases h'.t g hg with e | e
    · exact h.t g e
    · exact Or.inr (Nat.le_trans h.size e)
theorem Fr.below {w w' : World} (h : Below w.heap.size w w') (yb : Nat) (nv tv ov : Value) : Fr w w' yb nv tv ov nv tv := ⟨h.size, fun k hk _ _ _ _ => h.block k hk, fun _ h => Or.inl h, fun _ h => Or.inl h⟩
theorem Fr.grown {w w' : World} {yb : Nat} (h : w.grownBy w' (some yb)) (nv tv ov : Value) : Fr w w' yb nv tv ov nv tv := ⟨h.size, fun k hk hy _ _ _ => h.block k hk (fun e => by cases e; exact hy rfl), fun _ h => Or.inl h, fun _ h => Or.inl h⟩
theorem Fr.set {w w' : World} {yb g o : Nat} {x : Value} (nv tv ov : Value) (ho : ov.ownBlock = some g) (hW : w'.heap = (w.setCell ⟨g, o, none⟩ x).heap) : Fr w w' yb nv tv ov nv tv :=
  ⟨by rw [hW]; simp [World.setCell], fun k _ _ _ _ h => by rw [hW, blk_other _ _ (by simp only; intro e; subst e; exact h ho)], fun _ h => Or.inl h, fun _ h => Or.inl h⟩

/-- what find is good for, at a tree: everything below w0 stays; the Typing is as tyFind says -/
def FindOk (w0 : World) (yb : Nat) (cls : List Nat) (t : PT) : Prop :=
  ∀ (id site b : Nat) (F : Nat → Prop) (env : TEnv) (st : TSt) (cv nv tv ov : Value) (w : World), IsT w0 F t id site b → TyIn w0 w yb cls cv nv tv ov env st →
    id + t.cnt ≤ st.of.length → site + t.prs ≤ cls.length → (∀ x ∈ env, x.2.fit) → (st.e = 0 → ∀ x ∈ env, x.2.size ≤ 63) → env.length + t.cnt ≤ 9000 →
    Calls Tryd.prog 47 #[ptr yb, ptr b] w fun v w' => v = .returned (.string (bs (tyFind cls t id site env st).1.txt)) ∧
      ∃ nv' tv', Fr w w' yb nv tv ov nv' tv' ∧ TyIn w0 w' yb cls cv nv' tv' ov env (tyFind cls t id site env st).2

def FormOk (w0 : World) (yb : Nat) (cls : List Nat) (t : PT) (f : Nat → Nat → TEnv → TSt → Ty × TSt) : Prop :=
  ∀ (id site b : Nat) (F : Nat → Prop) (env : TEnv) (st : TSt) (cv nv tv ov : Value) (w : World), IsT w0 F t id site b → TyIn w0 w yb cls cv nv tv ov env st →
    id + t.cnt ≤ st.of.length → site + t.prs ≤ cls.length → (∀ x ∈ env, x.2.fit) → (st.e = 0 → ∀ x ∈ env, x.2.size ≤ 63) → env.length + t.cnt ≤ 9000 →
    Calls Tryd.prog 63 #[ptr yb, ptr b] w fun v w' => v = .returned (.string (bs (f id site env st).1.txt)) ∧
      ∃ nv' tv', Fr w w' yb nv tv ov nv' tv' ∧ TyIn w0 w' yb cls cv nv' tv' ov env (f id site env st).2

def PT.pl : PT → Nat
  | .num p _ => p
  | .name p _ => p
  | .node p _ _ _ _ => p

theorem isT_blk {w : World} {F : Nat → Prop} {t : PT} {id site b : Nat} (h : IsT w F t id site b) : ∃ op nm n kv last, w.heap[b]? = some (.cells (exCells op t.pl nm n kv id last site) 52 (0, 0)) := by
  cases t with
  | num p s => simp only [IsT] at h; exact ⟨_, _, _, _, _, h.2⟩
  | name p s => simp only [IsT] at h; exact ⟨_, _, _, _, _, h.2⟩
  | node p k nm rg kids => simp only [IsT] at h; obtain ⟨_, kv, bl, h1, _⟩ := h; exact ⟨_, _, _, _, _, h1⟩

/-- a store into the Typing's own error and place -/
theorem TyIn.err {w0 w w' : World} {yb : Nat} {cls : List Nat} {cv nv tv ov : Value} {env : TEnv} {st : TSt} (h : TyIn w0 w yb cls cv nv tv ov env st) (hg : w.grownBy w' (some yb)) {e p : Nat}
    (hy : w'.heap[yb]? = some (.cells (tyCells cv nv tv ov e p) 55 (0, 0))) : TyIn w0 w' yb cls cv nv tv ov env { st with e := e, at_ := p } := by
  have keep : ∀ (v : Value) (base : Nat) (ty : TypeId) (n : Nat) (xs : List Value), w.ownsRow base ty 1 v n xs → v.ownBlock ≠ some yb → w'.ownsRow base ty 1 v n xs := by
    intro v base ty n xs ho hv
    exact owns_blk ho (fun k hk => hg.block k (ho.lt k hk).2 (fun e => by cases e; exact hv hk))
  refine ⟨?_, h.hyb, hy, keep _ _ _ _ _ h.c h.cy, keep _ _ _ _ _ h.n h.ny, keep _ _ _ _ _ h.t h.ty, keep _ _ _ _ _ h.o h.oy, h.cy, h.ny, h.ty, h.oy, h.cn, h.ct, h.co, h.nt, h.no, h.tov⟩
  refine h.b0.trans ⟨hg.os, hg.tape, hg.output, hg.size, fun k hk => hg.block k (by have := h.b0.size; omega) (fun e => by cases e; have := h.hyb; omega)⟩

/-- a store into Of -/
theorem TyIn.setOf {w0 w w' : World} {yb : Nat} {cls : List Nat} {cv nv tv : Value} {env : TEnv} {st : TSt} {g cap : Nat} (h : TyIn w0 w yb cls cv nv tv (.slice (some ⟨g, 0, none⟩) st.of.length cap) env st) (id : Nat) (x : List UInt8)
    (hW : w'.heap = (w.setCell ⟨g, id, none⟩ (strV x)).heap) (h1 : w'.os = w.os) (h2 : w'.tape = w.tape) (h3 : w'.output = w.output) :
    TyIn w0 w' yb cls cv nv tv (.slice (some ⟨g, 0, none⟩) (st.of.set id x).length cap) env { st with of := st.of.set id x } := by
  have hlt := h.o.lt g rfl
  have hoth : ∀ k, k ≠ g → w'.heap[k]? = w.heap[k]? := fun k hk => by rw [hW, blk_other _ _ (by simpa using hk)]
  have hs : w'.heap.size = w.heap.size := by rw [hW]; simp [World.setCell]
  have keep : ∀ (v : Value) (base : Nat) (ty : TypeId) (n : Nat) (xs : List Value), w.ownsRow base ty 1 v n xs → apart v (.slice (some ⟨g, 0, none⟩) st.of.length cap) → w'.ownsRow base ty 1 v n xs := by
    intro v base ty n xs ho hv
    exact owns_blk ho (fun k hk => hoth k (fun e => hv k hk (by rw [e]; rfl)))
  have ho' := (h.o.stored id (strV x)).1
  refine ⟨?_, h.hyb, ?_, keep _ _ _ _ _ h.c h.co, keep _ _ _ _ _ h.n h.no, keep _ _ _ _ _ h.t h.tov, ?_, h.cy, h.ny, h.ty, ?_, h.cn, h.ct, ?_, h.nt, ?_, ?_⟩
  · exact h.b0.trans ⟨h1, h2, h3, by omega, fun k hk => hoth k (by omega)⟩
  · rw [hoth yb (fun e => h.oy (by rw [e]; rfl))]
    have e : (st.of.set id x).length = st.of.length := by simp
    rw [e]; exact h.y
  · have e : (st.of.set id x).length = st.of.length := by simp
    show w'.ownsRow _ _ _ (.slice (some ⟨g, 0, none⟩) (st.of.set id x).length cap) (st.of.set id x).length ((st.of.set id x).map strV)
    rw [e, List.map_set]
    exact owns_blk ho' (fun k _ => by rw [hW])
  · exact h.oy
  · exact h.co
  · exact h.no
  · exact h.tov
end Go.Proofs.YtpicaknklgccoaaDoor

namespace Go.Proofs.YtpicaknklgccoaaDoor
open Go.RowKit

def psCells (s : ByteArray) (placed : Bool) (fr : Nat) (fl : Bool) (a : Nat) (sv nv ov : Value) : Array Value := #[.string s, .bool placed, .int .i64 fr, .bool fl, .int .i64 a, sv, nv, ov]
def nrL (n : NR) : List Value := [.int .i64 n.form, .int .i64 n.at_, .int .i64 n.beh, .int .i64 n.num, .string (bs n.word), .int .i64 n.region, .int .i64 n.source, .int .i64 n.p0, .int .i64 n.p1, .int .i64 n.p2]
def scL (x : List UInt8 × Int) : List Value := [.string (bs x.1), .int .i64 x.2]
def intV (i : Int) : Value := .int .i64 i

/-- how a reader lies in memory -/
structure PIn (s : ByteArray) (placed : Bool) (pb : Nat) (w : World) (sv nv ov : Value) (st : PS) : Prop where
  y : ∃ fr, fr ≤ s.size ∧ tksAt s.data.toList fr = st.l ∧ w.heap[pb]? = some (.cells (psCells s placed fr st.fl.isSome (st.fl.getD 0) sv nv ov) 82 (0, 0))
  sc : w.ownsRow 0 154 2 sv st.scope.length (st.scope.flatMap scL)
  nd : w.ownsRow 0 93 10 nv st.nodes.length (st.nodes.flatMap nrL)
  op : w.ownsRow 0 3 1 ov st.opened.length (st.opened.map intV)
  sy : sv.ownBlock ≠ some pb
  ny : nv.ownBlock ≠ some pb
  oy : ov.ownBlock ≠ some pb
  sn : apart sv nv
  so : apart sv ov
  no : apart nv ov

/-- what a call on a reader leaves alone; where its rows lie now -/
structure PFr (pb nb : Nat) (w w' : World) (sv nv ov sv' nv' ov' : Value) : Prop where
  os : w'.os = w.os
  tape : w'.tape = w.tape
  output : w'.output = w.output
  size : w.heap.size ≤ w'.heap.size
  blk : ∀ k, k < w.heap.size → k ≠ pb → k ≠ nb → sv.ownBlock ≠ some k → nv.ownBlock ≠ some k → ov.ownBlock ≠ some k → w'.heap[k]? = w.heap[k]?
  s : ∀ g, sv'.ownBlock = some g → sv.ownBlock = some g ∨ w.heap.size ≤ g
  n : ∀ g, nv'.ownBlock = some g → nv.ownBlock = some g ∨ w.heap.size ≤ g
  o : ∀ g, ov'.ownBlock = some g → ov.ownBlock = some g ∨ w.heap.size ≤ g
theorem PFr.refl (pb nb : Nat) (w : World) (sv nv ov : Value) : PFr pb nb w w sv nv ov sv nv ov := ⟨rfl, rfl, rfl, Nat.le_refl _, fun _ _ _ _ _ _ _ => rfl, fun _ h => Or.inl h, fun _ h => Or.inl h, fun _ h => Or.inl h⟩
theorem PFr.trans {pb nb : Nat} {w w1 w2 : World} {sv nv ov sv1 nv1 ov1 sv2 nv2 ov2 : Value} (h : PFr pb nb w w1 sv nv ov sv1 nv1 ov1) (h' : PFr pb nb w1 w2 sv1 nv1 ov1 sv2 nv2 ov2) : PFr pb nb w w2 sv nv ov sv2 nv2 ov2 := by
  refine ⟨h'.os.trans h.os, h'.tape.trans h.tape, h'.output.trans h.output, Nat.le_trans h.size h'.size, ?_, ?_, ?_, ?_⟩
  · intro k hk hp hnb hs hn ho
    rw [h'.blk k (Nat.lt_of_lt_of_le hk h.size) hp hnb (fun e => by rcases h.s k e with e | e; exact hs e; omega) (fun e => by rcases h.n k e with e | e; exact hn e; omega) (fun e => by rcases h.o k e with e | e; exact ho e; omega)]
    exact h.blk k hk hp hnb hs hn ho
  · intro g hg
    rcases h'.s g hg with e | e
    · exact h.s g e
    · exact Or.inr (Nat.le_trans h.size e)
  · intro g hg
    rcases h'.n g hg with e | e
    · exact h.n g e
    · exact Or.inr (Nat.le_trans h.size e)
  · intro g hg
    rcases h'.o g hg with e | e
    · exact h.o g e
    · exact Or.inr (Nat.le_trans h.size e)
theorem PFr.below {w w' : World} (pb nb : Nat) (sv nv ov : Value) (h : Below w.heap.size w w') : PFr pb nb w w' sv nv ov sv nv ov := ⟨h.os, h.tape, h.output, h.size, fun k hk _ _ _ _ _ => h.block k hk, fun _ h => Or.inl h, fun _ h => Or.inl h, fun _ h => Or.inl h⟩
/-- without the node's own block -/
theorem PFr.nb {pb nb : Nat} {w w' : World} {sv nv ov sv' nv' ov' : Value} (h : PFr pb pb w w' sv nv ov sv' nv' ov') : PFr pb nb w w' sv nv ov sv' nv' ov' := ⟨h.os, h.tape, h.output, h.size, fun k hk hp _ hs hn ho => h.blk k hk hp hp hs hn ho, h.s, h.n, h.o⟩

/-- the reader's rows stay, its block is as told -/
theorem PIn.move {s : ByteArray} {placed : Bool} {pb : Nat} {w w' : World} {sv nv ov : Value} {st : PS} (h : PIn s placed pb w sv nv ov st) (l : List Tk) (fl : Option Nat)
    (hs : ∀ k, sv.ownBlock = some k → w'.heap[k]? = w.heap[k]?) (hn : ∀ k, nv.ownBlock = some k → w'.heap[k]? = w.heap[k]?) (ho : ∀ k, ov.ownBlock = some k → w'.heap[k]? = w.heap[k]?)
    (hy : ∃ fr, fr ≤ s.size ∧ tksAt s.data.toList fr = l ∧ w'.heap[pb]? = some (.cells (psCells s placed fr fl.isSome (fl.getD 0) sv nv ov) 82 (0, 0))) :
    PIn s placed pb w' sv nv ov { st with l := l, fl := fl } :=
  ⟨hy, owns_blk h.sc hs, owns_blk h.nd hn, owns_blk h.op ho, h.sy, h.ny, h.oy, h.sn, h.so, h.no⟩
theorem PIn.slt {s : ByteArray} {placed : Bool} {pb : Nat} {w : World} {sv nv ov : Value} {st : PS} (h : PIn s placed pb w sv nv ov st) : (∀ k, sv.ownBlock = some k → k < w.heap.size) ∧ (∀ k, nv.ownBlock = some k → k < w.heap.size) ∧ (∀ k, ov.ownBlock = some k → k < w.heap.size) ∧ pb < w.heap.size :=
  ⟨fun k hk => (h.sc.lt k hk).2, fun k hk => (h.nd.lt k hk).2, fun k hk => (h.op.lt k hk).2, by obtain ⟨fr, _, _, hy⟩ := h.y; exact blk_lt hy⟩
theorem PIn.below {s : ByteArray} {placed : Bool} {pb : Nat} {w w' : World} {sv nv ov : Value} {st : PS} (h : PIn s placed pb w sv nv ov st) (hb : Below w.heap.size w w') : PIn s placed pb w' sv nv ov st := by
  obtain ⟨h1, h2, h3, h4⟩ := h.slt
  obtain ⟨fr, hf1, hf2, hf3⟩ := h.y
  exact PIn.move h st.l st.fl (fun k hk => hb.block k (h1 k hk)) (fun k hk => hb.block k (h2 k hk)) (fun k hk => hb.block k (h3 k hk)) ⟨fr, hf1, hf2, by rw [hb.block pb h4]; exact hf3⟩

theorem alloc2_kept {w w2 : World} {A : Obj} {cs : Array Value} {t : TypeId} (hb : Below ((w.alloc A).alloc (.cells cs t)).drew.heap.size ((w.alloc A).alloc (.cells cs t)).drew w2) : w2.heap[w.heap.size + 1]? = some (.cells cs t (0, 0)) := by
  rw [hb.block (w.heap.size + 1) (by show w.heap.size + 1 < ((w.alloc A).alloc (.cells cs t)).heap.size; simp)]
  have h := blk_new (w.alloc A) (.cells cs t)
  have e : (w.alloc A).heap.size = w.heap.size + 1 := by simp
  rw [e] at h
  exact h
theorem tok_cells {w : World} {g : Nat} {t : TypeId} {a b c d e : Value} (h : w.heap[g]? = some (.cells #[a, b, c, d, e] t (0, 0))) : w.cell? ⟨g, 0, none⟩ = some a ∧ w.cell? ⟨g, 1, none⟩ = some b ∧ w.cell? ⟨g, 2, none⟩ = some c ∧ w.cell? ⟨g, 3, none⟩ = some d ∧ w.cell? ⟨g, 4, none⟩ = some e :=
  ⟨by rw [blk_cell h]; rfl, by rw [blk_cell h]; rfl, by rw [blk_cell h]; rfl, by rw [blk_cell h]; rfl, by rw [blk_cell h]; rfl⟩

theorem next_beh (s : ByteArray) (a : Nat) (ha : a ≤ s.size) : tksAt s.data.toList (tk1 s.size (tksAt s.data.toList a)).beh = (tksAt s.data.toList a).tail ∧ (tk1 s.size (tksAt s.data.toList a)).beh ≤ s.size := by
  obtain ⟨h1, h2⟩ := tks_skip s s.size a (by omega)
  have hnl := nbl_le (s.data.toList.drop a)
  rw [List.length_drop, size_list] at hnl
  rw [← h1]
  obtain ⟨p, hp⟩ : ∃ p, p = a + nbl (s.data.toList.drop a) := ⟨_, rfl⟩
  rw [← hp]
  have h3 : ∀ h : p < s.size, blankB s[p] = false := by subst hp; exact h2
  by_cases hlt : p < s.size
  · have ht := tks_tok s p hlt (h3 hlt)
    rw [ht]
    have hlen := tkAt_len s p hlt
    have hle := tokenOf_le (s.data.toList.drop p) (by rw [drop_cons s p hlt]; simp)
    rw [List.length_drop, size_list] at hle
    have hb : (tk1 s.size (tkAt s p :: tksAt s.data.toList (p + (tokenOf (s.data.toList.drop p)).1))).beh = p + (tokenOf (s.data.toList.drop p)).1 := by
      show (tkAt s p).at_ + (tkAt s p).s.length = _
      rw [hlen]; rfl
    rw [hb]
    exact ⟨rfl, by omega⟩
  · have ht := tks_end s p (by omega)
    rw [ht]
    exact ⟨tks_end s s.size (Nat.le_refl _), Nat.le_refl _⟩

theorem take_meet_b {w w2 : World} {T : TN} {A : Array Value} {t : TypeId} (hb : Below ((w.alloc (.cells A t)).drew).heap.size ((w.alloc (.cells A t)).drew) w2) :
    ∃ g, w.heap.size < g ∧ Value.pointer (some ⟨w2.heap.size, 0, none⟩) = .pointer (some ⟨g, 0, none⟩) ∧ (w2.alloc (.cells #[.int .i64 T.kind, .int .i64 T.at_, .int .i64 T.beh, .string (bs T.word), .int .i64 T.num] t)).heap[g]? = some (.cells #[.int .i64 T.kind, .int .i64 T.at_, .int .i64 T.beh, .string (bs T.word), .int .i64 T.num] t (0, 0)) ∧
      (w2.alloc (.cells #[.int .i64 T.kind, .int .i64 T.at_, .int .i64 T.beh, .string (bs T.word), .int .i64 T.num] t)).heap[w.heap.size]? = some (.cells A t (0, 0)) ∧ Below w.heap.size w (w2.alloc (.cells #[.int .i64 T.kind, .int .i64 T.at_, .int .i64 T.beh, .string (bs T.word), .int .i64 T.num] t)) := by
  have hs : w.heap.size + 1 ≤ w2.heap.size := by have := hb.size; simpa using this
  have h0 : w2.heap[w.heap.size]? = some (.cells A t (0, 0)) := by
    rw [hb.block w.heap.size (by show w.heap.size < (w.alloc (.cells A t)).heap.size; simp)]
    exact blk_new w (.cells A t)
  refine ⟨w2.heap.size, by omega, rfl, blk_new _ _, blk_alloc _ h0, ?_⟩
  have h1 : Below w.heap.size w (w.alloc (.cells A t)).drew := ((Below.refl _ w).alloc (Nat.le_refl _) (.cells A t)).trans ⟨rfl, rfl, rfl, Nat.le_refl _, fun _ _ => rfl⟩
  exact (h1.trans (hb.mono (by show w.heap.size ≤ (w.alloc (.cells A t)).heap.size; simp))).alloc (by omega) _
theorem take_meet_a {w w2 : World} {T : TN} {A : Array Value} {a b c d e : Value} {t : TypeId} (hb : Below ((w.alloc (.cells A t)).alloc (.cells #[a, b, c, d, e] t)).drew.heap.size ((w.alloc (.cells A t)).alloc (.cells #[a, b, c, d, e] t)).drew w2) :
    ∃ g, w.heap.size < g ∧ Value.pointer (some ⟨w.heap.size + 1, 0, none⟩) = .pointer (some ⟨g, 0, none⟩) ∧ (((((w2.setCell ⟨w.heap.size + 1, 0, none⟩ (.int .i64 T.kind)).setCell ⟨w.heap.size + 1, 1, none⟩ (.int .i64 T.at_)).setCell ⟨w.heap.size + 1, 2, none⟩ (.int .i64 T.beh)).setCell ⟨w.heap.size + 1, 3, none⟩ (.string (bs T.word))).setCell ⟨w.heap.size + 1, 4, none⟩ (.int .i64 T.num)).heap[g]? = some (.cells #[.int .i64 T.kind, .int .i64 T.at_, .int .i64 T.beh, .string (bs T.word), .int .i64 T.num] t (0, 0)) ∧
      (((((w2.setCell ⟨w.heap.size + 1, 0, none⟩ (.int .i64 T.kind)).setCell ⟨w.heap.size + 1, 1, none⟩ (.int .i64 T.at_)).setCell ⟨w.heap.size + 1, 2, none⟩ (.int .i64 T.beh)).setCell ⟨w.heap.size + 1, 3, none⟩ (.string (bs T.word))).setCell ⟨w.heap.size + 1, 4, none⟩ (.int .i64 T.num)).heap[w.heap.size]? = some (.cells A t (0, 0)) ∧
      Below w.heap.size w (((((w2.setCell ⟨w.heap.size + 1, 0, none⟩ (.int .i64 T.kind)).setCell ⟨w.heap.size + 1, 1, none⟩ (.int .i64 T.at_)).setCell ⟨w.heap.size + 1, 2, none⟩ (.int .i64 T.beh)).setCell ⟨w.heap.size + 1, 3, none⟩ (.string (bs T.word))).setCell ⟨w.heap.size + 1, 4, none⟩ (.int .i64 T.num)) := by
  have hq := alloc2_kept hb
  have h0 : w2.heap[w.heap.size]? = some (.cells A t (0, 0)) := by
    rw [hb.block w.heap.size (by show w.heap.size < ((w.alloc (.cells A t)).alloc (.cells #[a, b, c, d, e] t)).heap.size; simp; omega)]
    exact blk_alloc _ (blk_new w (.cells A t))
  refine ⟨w.heap.size + 1, by omega, rfl, ?_, ?_, ?_⟩
  · exact blk_set (blk_set (blk_set (blk_set (blk_set hq 0 _) 1 _) 2 _) 3 _) 4 _
  · rw [blk_other _ _ (by simp only; omega), blk_other _ _ (by simp only; omega), blk_other _ _ (by simp only; omega), blk_other _ _ (by simp only; omega), blk_other _ _ (by simp only; omega)]
    exact h0
  · have h1 : Below w.heap.size w ((w.alloc (.cells A t)).alloc (.cells #[a, b, c, d, e] t)).drew := (((Below.refl _ w).alloc (Nat.le_refl _) (.cells A t)).alloc (by simp) (.cells #[a, b, c, d, e] t)).trans ⟨rfl, rfl, rfl, Nat.le_refl _, fun _ _ => rfl⟩
    have h2 := h1.trans (hb.mono (by show w.heap.size ≤ ((w.alloc (.cells A t)).alloc (.cells #[a, b, c, d, e] t)).heap.size; simp; omega))
    exact ((((h2.setCell (p := ⟨w.heap.size + 1, 0, none⟩) (by simp) _).setCell (p := ⟨w.heap.size + 1, 1, none⟩) (by simp) _).setCell (p := ⟨w.heap.size + 1, 2, none⟩) (by simp) _).setCell (p := ⟨w.heap.size + 1, 3, none⟩) (by simp) _).setCell (p := ⟨w.heap.size + 1, 4, none⟩) (by simp) _

set_option maxRecDepth 100000 in
set_option maxHeartbeats 2000000 in
theorem take_any (s : ByteArray) (placed : Bool) (pb : Nat) (w : World) (sv nv ov : Value) (st : PS) (hs : s.size ≤ 9000) (h : PIn s placed pb w sv nv ov st) :
    Calls Tryd.prog 74 #[ptr pb] w fun v w' => v = .returned (tnVal (tk1 s.size st.l)) ∧ PFr pb pb w w' sv nv ov sv nv ov ∧ PIn s placed pb w' sv nv ov st.tail := by
  obtain ⟨fr, hf1, hf2, hf3⟩ := h.y
  obtain ⟨l1, l2, l3, l4⟩ := h.slt
  have hnx := fun w => Next_any s fr w hs hf1
  have hnb := next_beh s fr hf1
  rw [hf2] at hnx hnb
  have y0 : w.cell? ⟨pb, 0, none⟩ = some (.string s) := by rw [blk_cell hf3]; rfl
  have y2 : w.cell? ⟨pb, 2, none⟩ = some (.int .i64 fr) := by rw [blk_cell hf3]; rfl
  have HNB : Hid _ := hnb
  have HH : Hid _ := h
  have HF3 : Hid _ := hf3
  have HL1 : Hid _ := l1
  have HL2 : Hid _ := l2
  have HL3 : Hid _ := l3
  generalize tk1 s.size st.l = T at hnx HNB
  unfold tnVal at hnx
  clear hf1 hf2 hf3 hnb h l1 l2 l3
  show Calls _ _ #[Value.pointer (some ⟨pb, 0, none⟩)] w _
  go_enter Tryd.func74, Tryd.ntmps74
  go_upto_region 1 with fail
  go_cut [3] from 4 to 12 (fun t3 wx => ∃ g, w.heap.size < g ∧ t3 = .pointer (some ⟨g, 0, none⟩) ∧ wx.heap[g]? = some (.cells #[.int .i64 T.kind, .int .i64 T.at_, .int .i64 T.beh, .string (bs T.word), .int .i64 T.num] 112 (0, 0)) ∧
      wx.heap[w.heap.size]? = some (.cells #[.int .i64 0, .int .i64 0, .int .i64 0, .string ⟨#[]⟩, .int .i64 0] 112 (0, 0)) ∧ Below w.heap.size w wx)
  case first =>
    go_region_with (go_at_call 91; refine (hnx _).mono ?_; rintro e w2 ⟨rfl, hb2⟩; (try (have hq := alloc2_kept hb2; obtain ⟨c0, c1, c2, c3, c4⟩ := tok_cells hq; have f0 := blk_free hq 0; have f1 := blk_free hq 1; have f2 := blk_free hq 2; have f3 := blk_free hq 3; have f4 := blk_free hq 4)))
    all_goals (go_wp2_with fail; go_meet)
    all_goals first
      | exact take_meet_b hb2
      | exact take_meet_a hb2
  case rest =>
  obtain ⟨g, hg, rfl, hcg, hcr, hbc⟩ := hcut
  obtain ⟨c0, c1, c2, c3, c4⟩ := tok_cells hcg
  have yc : wc.heap[pb]? = some (.cells (psCells s placed fr st.fl.isSome (st.fl.getD 0) sv nv ov) 82 (0, 0)) := by rw [hbc.block pb l4]; exact HF3.out
  have z2 : wc.cell? ⟨pb, 2, none⟩ = some (.int .i64 fr) := by rw [blk_cell yc]; rfl
  have zf2 : wc.frozen? ⟨pb, 2, none⟩ = false := blk_free yc 2
  have hgp : g ≠ pb := by omega
  have hrp : w.heap.size ≠ pb := by omega
  have hr2 : (wc.setCell ⟨pb, 2, none⟩ (.int .i64 T.beh)).heap[w.heap.size]? = some (.cells #[.int .i64 0, .int .i64 0, .int .i64 0, .string ⟨#[]⟩, .int .i64 0] 112 (0, 0)) := by
    rw [blk_other _ _ (by simp only; omega)]; exact hcr
  have HYC : Hid _ := yc
  have HBC : Hid _ := hbc
  have hgw := blk_lt hcg
  clear yc hbc hcr hcg y0 y2 hnx
  go_wp2_with (refine st_row rfl 112 (.tmp 2) (.tmp 18) rfl w.heap.size #[.int .i64 T.kind, .int .i64 T.at_, .int .i64 T.beh, .string (bs T.word), .int .i64 T.num] rfl rfl 112 _ hr2 Tryd.infoTN rfl (tn_one T) ?_; intro W hW hWs hWo hW1 hW2 hW3)
  obtain ⟨d0, d1, d2, d3, d4⟩ := tok_cells hW
  refine bodyPost_ret (v := .agg #[.int .i64 T.kind, .int .i64 T.at_, .int .i64 T.beh, .string (bs T.word), .int .i64 T.num]) (by simp [results, Tryd.results74, go_sem, d0, d1, d2, d3, d4]) rfl ⟨rfl, ?_, ?_⟩
  · have hb := HBC.out
    refine ⟨hW1.trans hb.os, hW2.trans hb.tape, hW3.trans hb.output, by rw [hWs]; simp only [World.setCell, Array.size_modify]; exact hb.size, ?_, fun _ h => Or.inl h, fun _ h => Or.inl h, fun _ h => Or.inl h⟩
    intro k hk hkp _ _ _ _
    rw [hWo k (by omega), blk_other _ _ (by simpa using hkp)]
    exact hb.block k hk
  · have kp : ∀ k, k < w.heap.size → k ≠ pb → W.heap[k]? = w.heap[k]? := by
      intro k hk hkp
      rw [hWo k (by omega), blk_other _ _ (by simpa using hkp)]
      exact HBC.out.block k hk
    refine PIn.move HH.out st.tail.l st.tail.fl (fun k hk => kp k (HL1.out k hk) (fun e => HH.out.sy (by rw [hk, e]))) (fun k hk => kp k (HL2.out k hk) (fun e => HH.out.ny (by rw [hk, e]))) (fun k hk => kp k (HL3.out k hk) (fun e => HH.out.oy (by rw [hk, e]))) ⟨T.beh, HNB.out.2, HNB.out.1, ?_⟩
    rw [hWo pb (by omega)]
    exact blk_set HYC.out 2 _
end Go.Proofs.YtpicaknklgccoaaDoor

namespace Go.Proofs.YtpicaknklgccoaaDoor
open Go.RowKit

set_option maxRecDepth 100000 in
set_option maxHeartbeats 2000000 in
theorem fail_any (s : ByteArray) (placed : Bool) (pb : Nat) (w : World) (sv nv ov : Value) (st : PS) (a : Nat) (h : PIn s placed pb w sv nv ov st) :
    Calls Tryd.prog 75 #[ptr pb, .int .i64 a] w fun v w' => v = .returned (.tuple #[]) ∧ PFr pb pb w w' sv nv ov sv nv ov ∧ PIn s placed pb w' sv nv ov (st.fail a) := by
  obtain ⟨fr, hf1, hf2, hf3⟩ := h.y
  have y0 : w.cell? ⟨pb, 0, none⟩ = some (.string s) := by rw [blk_cell hf3]; rfl
  have y2 : w.cell? ⟨pb, 2, none⟩ = some (.int .i64 fr) := by rw [blk_cell hf3]; rfl
  have y3 : w.cell? ⟨pb, 3, none⟩ = some (.bool st.fl.isSome) := by rw [blk_cell hf3]; rfl
  have y4 : w.cell? ⟨pb, 4, none⟩ = some (.int .i64 (st.fl.getD 0)) := by rw [blk_cell hf3]; rfl
  have g2 : w.frozen? ⟨pb, 2, none⟩ = false := blk_free hf3 2
  have g3 : w.frozen? ⟨pb, 3, none⟩ = false := blk_free hf3 3
  have g4 : w.frozen? ⟨pb, 4, none⟩ = false := blk_free hf3 4
  have HH : Hid _ := h
  have HF3 : Hid _ := hf3
  have hpb := blk_lt hf3
  clear hf1 hf2 hf3 h
  show Calls _ _ #[Value.pointer (some ⟨pb, 0, none⟩), _] w _
  cases hfl : st.fl with
  | some q =>
    have e : st.fail a = st := by unfold PS.fail; rw [hfl]
    rw [hfl] at y3 y4
    rw [e]
    simp only [Option.isSome_some] at y3
    clear e hfl
    go_enter Tryd.func75, Tryd.ntmps75
    go_wp2
    refine bodyPost_ret (v := .tuple #[]) (by simp [results, Tryd.results75, go_sem]) rfl ⟨rfl, PFr.refl _ _ _ _ _ _, HH.out⟩
  | none =>
    have e : st.fail a = { st with l := [], fl := some a } := by unfold PS.fail; rw [hfl]
    rw [hfl] at y3 y4
    rw [e]
    simp only [Option.isSome_none] at y3
    have HFL : Hid _ := hfl
    clear e hfl
    go_enter Tryd.func75, Tryd.ntmps75
    go_wp2
    refine bodyPost_end (v := .tuple #[]) (by simp [results, Tryd.results75, go_sem]) rfl ⟨rfl, ?_, ?_⟩
    · refine ⟨rfl, rfl, rfl, by simp [World.setCell], ?_, fun _ h => Or.inl h, fun _ h => Or.inl h, fun _ h => Or.inl h⟩
      intro k hk hkp _ _ _ _
      rw [blk_other _ _ (by simpa using hkp), blk_other _ _ (by simpa using hkp), blk_other _ _ (by simpa using hkp)]
    · have kp : ∀ k, k ≠ pb → (((w.setCell ⟨pb, 3, none⟩ (.bool true)).setCell ⟨pb, 4, none⟩ (.int .i64 a)).setCell ⟨pb, 2, none⟩ (.int .i64 s.size)).heap[k]? = w.heap[k]? := by
        intro k hkp
        rw [blk_other _ _ (by simpa using hkp), blk_other _ _ (by simpa using hkp), blk_other _ _ (by simpa using hkp)]
      refine PIn.move HH.out [] (some a) (fun k hk => kp k (fun e => HH.out.sy (by rw [hk, e]))) (fun k hk => kp k (fun e => HH.out.ny (by rw [hk, e]))) (fun k hk => kp k (fun e => HH.out.oy (by rw [hk, e]))) ⟨s.size, Nat.le_refl _, tks_end s s.size (Nat.le_refl _), ?_⟩
      exact blk_set (blk_set (blk_set HF3.out 3 _) 4 _) 2 _

/-- a result's block, made at first and written at last -/
theorem res_end {s : ByteArray} {placed : Bool} {pb nb : Nat} {w w1 w2 W : World} {A : Obj} {sv nv ov sv' nv' ov' : Value} {st st' : PS} (h : PIn s placed pb w sv nv ov st) (hfr : PFr pb nb (w.alloc A) w1 sv nv ov sv' nv' ov') (hin : PIn s placed pb w1 sv' nv' ov' st')
    (hb : Below w1.heap.size w1 w2) (hWs : W.heap.size = w2.heap.size) (hWo : ∀ k, k ≠ w.heap.size → W.heap[k]? = w2.heap[k]?) (e1 : W.os = w2.os) (e2 : W.tape = w2.tape) (e3 : W.output = w2.output) :
    PFr pb nb w W sv nv ov sv' nv' ov' ∧ PIn s placed pb W sv' nv' ov' st' := by
  obtain ⟨l1, l2, l3, l4⟩ := h.slt
  have hsz : w.heap.size + 1 ≤ w1.heap.size := by have := hfr.size; simpa using this
  have hbs := hb.size
  have f0 : PFr pb nb w w1 sv nv ov sv' nv' ov' := (PFr.below pb nb sv nv ov ((Below.refl _ w).alloc (Nat.le_refl _) A)).trans hfr
  have f1 := f0.trans (PFr.below pb nb sv' nv' ov' hb)
  refine ⟨⟨e1.trans f1.os, e2.trans f1.tape, e3.trans f1.output, by rw [hWs]; exact f1.size, fun k hk hp hn a b c => by rw [hWo k (by omega)]; exact f1.blk k hk hp hn a b c, f1.s, f1.n, f1.o⟩, ?_⟩
  obtain ⟨m1, m2, m3, m4⟩ := hin.slt
  have hal : (w.alloc A).heap.size = w.heap.size + 1 := by simp
  have kp : ∀ k, k < w1.heap.size → k ≠ w.heap.size → W.heap[k]? = w1.heap[k]? := fun k hk hne => by rw [hWo k hne]; exact hb.block k hk
  obtain ⟨fr, y1, y2, y3⟩ := hin.y
  refine PIn.move hin st'.l st'.fl (fun k hk => kp k (m1 k hk) ?_) (fun k hk => kp k (m2 k hk) ?_) (fun k hk => kp k (m3 k hk) ?_) ⟨fr, y1, y2, by rw [kp pb m4 (by omega)]; exact y3⟩
  · rcases hfr.s k hk with e | e
    · have := l1 k e; omega
    · omega
  · rcases hfr.n k hk with e | e
    · have := l2 k e; omega
    · omega
  · rcases hfr.o k hk with e | e
    · have := l3 k e; omega
    · omega
theorem PFr.newBlk {pb nb : Nat} {w w1 : World} {A : Obj} {sv nv ov sv' nv' ov' : Value} (hfr : PFr pb nb (w.alloc A) w1 sv nv ov sv' nv' ov') (l1 : ∀ k, sv.ownBlock = some k → k < w.heap.size) (l2 : ∀ k, nv.ownBlock = some k → k < w.heap.size) (l3 : ∀ k, ov.ownBlock = some k → k < w.heap.size) (l4 : pb < w.heap.size) (l5 : nb < w.heap.size) :
    w1.heap[w.heap.size]? = some A := by
  rw [hfr.blk w.heap.size (by simp) (by omega) (by omega) (fun e => by have := l1 _ e; omega) (fun e => by have := l2 _ e; omega) (fun e => by have := l3 _ e; omega)]
  exact blk_new _ _

set_option maxRecDepth 100000 in
set_option maxHeartbeats 2000000 in
theorem expect_any (s : ByteArray) (placed : Bool) (pb : Nat) (w : World) (sv nv ov : Value) (st : PS) (k : Nat) (hs : s.size ≤ 9000) (h : PIn s placed pb w sv nv ov st) :
    Calls Tryd.prog 58 #[ptr pb, .int .i64 k] w fun v w' => v = .returned (tnVal (tk1 s.size st.l)) ∧ PFr pb pb w w' sv nv ov sv nv ov ∧ PIn s placed pb w' sv nv ov (st.expect s.size k) := by
  have htk := fun w h => take_any s placed pb w sv nv ov st hs h
  have hfa := fun w a h => fail_any s placed pb w sv nv ov st.tail a h
  have HH : Hid _ := h
  obtain ⟨l1, l2, l3, l4⟩ := h.slt
  have HL1 : Hid _ := l1
  have HL2 : Hid _ := l2
  have HL3 : Hid _ := l3
  have hex : st.expect s.size k = if (tk1 s.size st.l).kind ≠ k then st.tail.fail (tk1 s.size st.l).at_ else st.tail := rfl
  rw [hex]
  clear hex l1 l2 l3 h
  generalize tk1 s.size st.l = T at htk
  unfold tnVal ptr at htk
  unfold ptr at hfa
  have ha : PIn s placed pb (w.alloc (.cells #[.int .i64 0, .int .i64 0, .int .i64 0, .string ⟨#[]⟩, .int .i64 0] 112)) sv nv ov st := HH.out.below ((Below.refl _ w).alloc (Nat.le_refl _) _)
  have htk' := htk _ ha
  show Calls _ _ #[Value.pointer (some ⟨pb, 0, none⟩), _] w _
  clear htk ha
  by_cases hk : T.kind = k
  · have hkb : ((T.kind : Int) != (k : Int)) = false := by simp [hk]
    rw [if_neg (by simp [hk])]
    clear hk hfa
    go_enter Tryd.func58, Tryd.ntmps58
    go_wp2_with fail
    refine htk'.mono ?_
    rintro _ w1 ⟨rfl, hfr, hin⟩
    have hs1 : w.heap.size + 1 ≤ w1.heap.size := by have := hfr.size; simpa using this
    have hrb : w1.heap[w.heap.size]? = some (.cells #[.int .i64 0, .int .i64 0, .int .i64 0, .string ⟨#[]⟩, .int .i64 0] 112 (0, 0)) := by
      rw [hfr.blk w.heap.size (by simp) (by omega) (by omega) (fun e => by have := HL1.out _ e; omega) (fun e => by have := HL2.out _ e; omega) (fun e => by have := HL3.out _ e; omega)]
      exact blk_new _ _
    have hrb2 := blk_alloc (.cells #[.int .i64 T.kind, .int .i64 T.at_, .int .i64 T.beh, .string (bs T.word), .int .i64 T.num] 112) hrb
    have HFR : Hid _ := hfr
    have HIN : Hid _ := hin
    have hgne : w.heap.size ≠ w1.heap.size := by omega
    clear hfr hin hrb htk'
    go_wp2_with (refine st_row rfl 112 (.tmp 4) (.tmp 16) rfl w.heap.size #[.int .i64 T.kind, .int .i64 T.at_, .int .i64 T.beh, .string (bs T.word), .int .i64 T.num] rfl rfl 112 _ hrb2 Tryd.infoTN rfl (tn_one T) ?_; intro W hW hWs hWo hW1 hW2 hW3)
    obtain ⟨d0, d1, d2, d3, d4⟩ := tok_cells hW
    refine bodyPost_ret (v := .agg #[.int .i64 T.kind, .int .i64 T.at_, .int .i64 T.beh, .string (bs T.word), .int .i64 T.num]) (by simp [results, Tryd.results58, go_sem, d0, d1, d2, d3, d4]) rfl ⟨rfl, res_end HH.out HFR.out HIN.out ((Below.refl _ w1).alloc (Nat.le_refl _) _) hWs hWo hW1 hW2 hW3⟩
  · have hkb : ((T.kind : Int) != (k : Int)) = true := by simp; omega
    rw [if_pos hk]
    clear hk
    go_enter Tryd.func58, Tryd.ntmps58
    go_wp2_with fail
    refine htk'.mono ?_
    rintro _ w1 ⟨rfl, hfr, hin⟩
    have hrb := hfr.newBlk HL1.out HL2.out HL3.out l4 l4
    have hs1 : w.heap.size + 1 ≤ w1.heap.size := by have := hfr.size; simpa using this
    have HFR : Hid _ := hfr
    have HIN : Hid _ := hin
    have hgne : w.heap.size ≠ w1.heap.size := by omega
    clear hfr hin htk'
    go_wp2_with fail
    refine (hfa _ T.at_ (HIN.out.below ((Below.refl _ w1).alloc (Nat.le_refl _) _))).mono ?_
    rintro _ w3 ⟨rfl, hfr3, hin3⟩
    have hlt := HIN.out.slt
    have hq := hfr3.newBlk hlt.1 hlt.2.1 hlt.2.2.1 hlt.2.2.2 hlt.2.2.2
    obtain ⟨c0, c1, c2, c3, c4⟩ := tok_cells hq
    have hrb3 : w3.heap[w.heap.size]? = some (.cells #[.int .i64 0, .int .i64 0, .int .i64 0, .string ⟨#[]⟩, .int .i64 0] 112 (0, 0)) := by
      rw [hfr3.blk w.heap.size (by simp; omega) (by omega) (by omega) (fun e => by have := HL1.out _ e; omega) (fun e => by have := HL2.out _ e; omega) (fun e => by have := HL3.out _ e; omega)]
      exact blk_alloc _ hrb
    have HF3 : Hid _ := HFR.out.trans ((PFr.below pb pb sv nv ov ((Below.refl _ w1).alloc (Nat.le_refl _) _)).trans hfr3)
    have HIN3 : Hid _ := hin3
    clear hfr3 hin3 hq hlt hrb
    go_wp2_with (refine st_row rfl 112 (.tmp 4) (.tmp 16) rfl w.heap.size #[.int .i64 T.kind, .int .i64 T.at_, .int .i64 T.beh, .string (bs T.word), .int .i64 T.num] rfl rfl 112 _ hrb3 Tryd.infoTN rfl (tn_one T) ?_; intro W hW hWs hWo hW1 hW2 hW3)
    obtain ⟨d0, d1, d2, d3, d4⟩ := tok_cells hW
    refine bodyPost_ret (v := .agg #[.int .i64 T.kind, .int .i64 T.at_, .int .i64 T.beh, .string (bs T.word), .int .i64 T.num]) (by simp [results, Tryd.results58, go_sem, d0, d1, d2, d3, d4]) rfl ⟨rfl, res_end HH.out HF3.out HIN3.out (Below.refl _ _) hWs hWo hW1 hW2 hW3⟩
end Go.Proofs.YtpicaknklgccoaaDoor
