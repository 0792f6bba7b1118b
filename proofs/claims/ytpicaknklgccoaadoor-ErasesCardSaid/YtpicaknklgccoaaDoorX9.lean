import Derived.Test.YtpicaknklgccoaaDoorX8
/- leaseref's Text at a form with brackets. -/
namespace Go.Proofs.YtpicaknklgccoaaDoor
open Go.RowKit
open Go.Lib (decDigits)

theorem tameL_mem : ∀ {ts : List PT}, tameL ts → ∀ t ∈ ts, t.tame
  | [], _, t, h => by simp at h
  | a :: r, hw, t, h => by
    simp only [tameL] at hw
    rcases List.mem_cons.1 h with h | h
    · rw [h]; exact hw.1
    · exact tameL_mem hw.2 t h
theorem tameL_take : ∀ (ts : List PT) (i : Nat), tameL ts → tameL (ts.take i)
  | [], i, _ => by simp [tameL]
  | a :: r, 0, _ => by simp [tameL]
  | a :: r, i + 1, h => by simp only [tameL] at h; simp only [List.take_succ_cons, tameL]; exact ⟨h.1, tameL_take r i h.2⟩
theorem ptxL_snoc : ∀ (ts : List PT) (t : PT), ptxL (ts ++ [t]) = ptxL ts ++ [t.ptx]
  | [], t => by simp [ptxL]
  | a :: r, t => by simp [ptxL, ptxL_snoc r t]
def accT (k : Kw) (nm : List UInt8) (kids : List PT) (j : Nat) : List UInt8 := 40 :: (k.bytes ++ joinT k nm 0 (ptxL (kids.take j)))
theorem accT_succ (k : Kw) (nm : List UInt8) (kids : List PT) (j : Nat) (x : PT) (hx : kids[j]? = some x) : accT k nm kids (j + 1) = accT k nm kids j ++ pieceT k nm j x.ptx := by
  have hlt : j < kids.length := (List.getElem?_eq_some_iff.1 hx).1
  unfold accT
  rw [List.take_add_one, hx]
  simp only [Option.toList_some]
  rw [ptxL_snoc, joinT_snoc, ptxL_len, List.length_take, Nat.min_eq_left (by omega), Nat.zero_add]
  simp [List.append_assoc]
theorem accT_len (k : Kw) (nm : List UInt8) (kids : List PT) (j : Nat) (hn : nm.length ≤ 9000) (ht : tameL kids) (hc : cntL kids ≤ 9000) : (accT k nm kids j).length ≤ 180000005 := by
  have h1 := joinT_len k nm (kids.take j) 0 hn (tameL_take kids j ht)
  have h2 := cntL_take kids j
  have h3 : k.bytes.length ≤ 4 := by cases k <;> decide
  unfold accT
  simp only [List.length_cons, List.length_append]
  omega
theorem accT_end (p : Nat) (k : Kw) (nm rg : List UInt8) (kids : List PT) (hk : k ≠ .new) : accT k nm kids kids.length ++ [41] = (PT.node p k nm rg kids).ptx := by
  unfold accT
  simp [PT.ptx, hk]

set_option maxRecDepth 100000 in
set_option maxHeartbeats 2000000 in
theorem Text_node (w0 : World) (p : Nat) (k : Kw) (nm rg : List UInt8) (kids : List PT) (hkn : k ≠ .new) (ih : ∀ x ∈ kids, TextOk w0 x) : TextOk w0 (.node p k nm rg kids) := by
  intro id site b F hcnt ht hwf hT w hw0
  obtain ⟨va, vc, ⟨y0, y2, y4⟩, hbw, hk⟩ := node_kid hT
  have x0 : w.cell? ⟨b, 0, none⟩ = some (.string (bs k.bytes)) := (hw0.cell (p := ⟨b, 0, none⟩) hbw).trans y0
  have x2 : w.cell? ⟨b, 2, none⟩ = some (.string (bs nm)) := (hw0.cell (p := ⟨b, 2, none⟩) hbw).trans y2
  have x4 : w.cell? ⟨b, 4, none⟩ = some (.slice va kids.length vc) := (hw0.cell (p := ⟨b, 4, none⟩) hbw).trans y4
  have h1 : ((bs k.bytes).toList == [110, 117, 109, 98, 101, 114]) = false := by rw [bs_beq0]; cases k <;> decide
  have h2 : ((bs k.bytes).toList == [110, 97, 109, 101]) = false := by rw [bs_beq0]; cases k <;> decide
  have h3 : ((bs k.bytes).toList == [110, 101, 119]) = false := by rw [bs_beq0]; cases k <;> first | decide | exact absurd rfl hkn
  obtain ⟨bp, hp⟩ : ∃ bp, ((bs k.bytes).toList == [112, 97, 105, 114]) = bp := ⟨_, rfl⟩
  obtain ⟨bl, hl⟩ : ∃ bl, ((bs k.bytes).toList == [108, 101, 116]) = bl := ⟨_, rfl⟩
  obtain ⟨bo, ho⟩ : ∃ bo, ((bs k.bytes).toList == [108, 111, 111, 112]) = bo := ⟨_, rfl⟩
  have hL : bl = decide (k = .let_) := by rw [← hl, bs_beq0]; cases k <;> decide
  have hO : bo = decide (k = .loop) := by rw [← ho, bs_beq0]; cases k <;> decide
  have hLO : ¬ (bl = true ∧ bo = true) := by rw [hL, hO]; cases k <;> simp
  simp only [PT.cnt] at hcnt
  simp only [PT.tame] at ht
  simp only [PT.wf] at hwf
  have hkl : kids.length ≤ 9000 := by have := len_cntL kids; omega
  have hlen := fun j => accT_len k nm kids j ht.1 ht.2 (by omega)
  have hnl := ht.1
  have hkb : k.bytes.length ≤ 4 := by cases k <;> decide
  have hall : ∀ j x, kids[j]? = some x → ∀ w', Below w0.heap.size w0 w' → ∃ gk bx, va = some ⟨gk, 0, none⟩ ∧ gk < w0.heap.size ∧ w'.cell? ⟨gk, j, none⟩ = some (.pointer (some ⟨bx, 0, none⟩)) ∧
      Calls Tryd.prog 19 #[.pointer (some ⟨bx, 0, none⟩), .slice none 0 0, .slice none 0 0] w' (fun e w'' => e = .returned (.string (bs x.ptx)) ∧ Below w'.heap.size w' w'') ∧ x.ptx.length ≤ 180000000 := by
    intro j x hx w' hw'
    obtain ⟨gk, bx, id', site', hva, hg, hc, hTx⟩ := hk j x hx
    have hm := List.mem_of_getElem? hx
    have hcx : x.cnt ≤ 9000 := by
      have h1 := cntL_take kids (j + 1)
      rw [List.take_add_one, hx] at h1
      simp only [Option.toList_some] at h1
      rw [cntL_snoc] at h1
      omega
    have hpl := ptx_len x (tameL_mem ht.2 x hm)
    exact ⟨gk, bx, hva, hg, (hw'.cell (p := ⟨gk, j, none⟩) hg).trans hc, ih x hm id' site' bx F hcx (tameL_mem ht.2 x hm) (wfL_mem hwf.2 x hm) hTx w' hw', by omega⟩
  have HALL : Hid _ := hall
  have HW0 : Hid _ := hw0
  have hw0s := hw0.size
  have HEND : Hid _ := accT_end p k nm rg kids hkn
  have HL : Hid _ := hL
  have HO : Hid _ := hO
  have z1 : (ByteArray.mk #[40]).size = 1 := rfl
  have z2 : (bs k.bytes).size ≤ 4 := by rw [bs_size]; exact hkb
  have z3 : (bs nm).size ≤ 9000 := by rw [bs_size]; exact hnl
  have e0 : ByteArray.mk #[40] ++ bs k.bytes = bs (accT k nm kids 0) := by
    rw [show ByteArray.mk #[40] = bs [40] from rfl, bs_app]; simp [accT, ptxL, joinT]
  have E0 : Hid _ := e0
  clear hall hT hk ht hwf y0 y2 y4 ih hw0 hL hO hcnt e0
  show Calls _ _ #[Value.pointer (some ⟨b, 0, none⟩), _, _] w _
  go_enter Tryd.func19, Tryd.ntmps19
  cases bp <;> go_wp2_with fail
  all_goals
    go_loopw [7, 8] (fun v i wr => ∃ j : Nat, j ≤ kids.length ∧ i = .int .i64 j ∧ v = .string (bs (accT k nm kids j)) ∧ Below w.heap.size w wr) (fun _ i _ => kids.length - (intOf i).toNat)
    case atStart => exact ⟨0, by omega, rfl, by rw [← E0.out], Below.refl _ _⟩
    case round =>
      obtain ⟨j, hj, rfl, rfl, hbel⟩ := hrel
      have hsz := hbel.size
      have q0 : wr.cell? ⟨b, 0, none⟩ = some (.string (bs k.bytes)) := (hbel.cell (p := ⟨b, 0, none⟩) (by simp only; omega)).trans x0
      have q2 : wr.cell? ⟨b, 2, none⟩ = some (.string (bs nm)) := (hbel.cell (p := ⟨b, 2, none⟩) (by simp only; omega)).trans x2
      have q4 : wr.cell? ⟨b, 4, none⟩ = some (.slice va kids.length vc) := (hbel.cell (p := ⟨b, 4, none⟩) (by simp only; omega)).trans x4
      have zA : (bs (accT k nm kids j)).size ≤ 180000005 := by rw [bs_size]; exact hlen j
      have z4 : (ByteArray.mk #[32]).size = 1 := rfl
      have z5 : (ByteArray.mk #[41]).size = 1 := rfl
      by_cases hlt : j < kids.length
      · obtain ⟨x, hx⟩ : ∃ x, kids[j]? = some x := ⟨kids[j], List.getElem?_eq_getElem hlt⟩
        obtain ⟨gk, bx, rfl, hg, hc, hcall, hpl⟩ := HALL.out j x hx wr (HW0.out.trans (hbel.mono hw0s))
        have zB : (bs (accT k nm kids j) ++ ByteArray.mk #[32]).size ≤ 180000006 := by rw [ByteArray.size_append]; omega
        have zC : (bs (accT k nm kids j) ++ ByteArray.mk #[32] ++ bs nm).size ≤ 180009006 := by rw [ByteArray.size_append]; omega
        have zD : (bs (accT k nm kids j) ++ ByteArray.mk #[32] ++ bs nm ++ ByteArray.mk #[32]).size ≤ 180009007 := by rw [ByteArray.size_append]; omega
        have zE : (bs x.ptx).size ≤ 180000000 := by rw [bs_size]; exact hpl
        have hs := accT_succ k nm kids j x hx
        have eN : ((bl = true ∧ j = 0) ∨ (bo = true ∧ j = 1)) → bs (accT k nm kids j) ++ ByteArray.mk #[32] ++ bs nm ++ ByteArray.mk #[32] ++ bs x.ptx = bs (accT k nm kids (j + 1)) := by
          intro hcd
          rw [HL.out, HO.out, decide_eq_true_eq, decide_eq_true_eq] at hcd
          rw [hs, show ByteArray.mk #[32] = bs [32] from rfl, bs_app, bs_app, bs_app, bs_app]
          unfold pieceT; rw [if_pos hcd]; simp
        have eP : ¬ ((bl = true ∧ j = 0) ∨ (bo = true ∧ j = 1)) → bs (accT k nm kids j) ++ ByteArray.mk #[32] ++ bs x.ptx = bs (accT k nm kids (j + 1)) := by
          intro hcd
          rw [HL.out, HO.out, decide_eq_true_eq, decide_eq_true_eq] at hcd
          rw [hs, show ByteArray.mk #[32] = bs [32] from rfl, bs_app, bs_app]
          unfold pieceT; rw [if_neg hcd]; simp
        have EN : Hid _ := eN
        have EP : Hid _ := eP
        clear eN eP hs hx
        cases bl <;> cases bo <;> first | exact absurd ⟨rfl, rfl⟩ hLO | skip
        all_goals
          clear hLO
          clear HL HO
          by_cases hj0 : j = 0
          · subst hj0
            first
            | (have ee : Hid _ := EN.out (by decide))
            | (have ee : Hid _ := EP.out (by decide))
            clear EN EP
            go_wp2_with (go_at_call 19; refine hcall.mono ?_; rintro e w1 ⟨rfl, hb1⟩)
            go_roundw
            case rel => exact ⟨1, by omega, rfl, by rw [← ee.out], hbel.trans (hb1.mono hsz)⟩
            case measure => simp [intOf]; omega
          · by_cases hj1 : j = 1
            · subst hj1
              first
              | (have ee : Hid _ := EN.out (by decide))
              | (have ee : Hid _ := EP.out (by decide))
              clear EN EP
              go_wp2_with (go_at_call 19; refine hcall.mono ?_; rintro e w1 ⟨rfl, hb1⟩)
              go_roundw
              case rel => exact ⟨2, by omega, rfl, by rw [← ee.out], hbel.trans (hb1.mono hsz)⟩
              case measure => simp [intOf]; omega
            · have ee : Hid _ := EP.out (by simp [hj0, hj1])
              clear EN EP
              go_wp2_with (go_at_call 19; refine hcall.mono ?_; rintro e w1 ⟨rfl, hb1⟩)
              go_roundw
              case rel => exact ⟨j + 1, by omega, by go_num, by rw [← ee.out], hbel.trans (hb1.mono hsz)⟩
              case measure => simp [intOf]; omega
      · have hjk : j = kids.length := by omega
        subst hjk
        clear HALL HL HO
        go_wp2_with fail
        go_ret
        refine ⟨?_, hbel⟩
        rw [← HEND.out, ← bs_app]; rfl

theorem Text_any (w0 : World) (hit : ItoaOk w0) (t : PT) : t.wf → TextOk w0 t := by
  induction t using PT.ind with
  | h1 p s => exact fun _ => Text_num w0 hit p s
  | h2 p s => exact fun _ => Text_name w0 p s
  | h3 p k nm rg kids ih =>
    intro hwf
    simp only [PT.wf] at hwf
    have ih' : ∀ x ∈ kids, TextOk w0 x := fun x hx => ih x hx (wfL_mem hwf.2 x hx)
    by_cases hk : k = .new
    · subst hk
      match kids, hwf.1, ih' with
      | [x], _, ih' => exact Text_new w0 p nm rg x (ih' x (by simp))
    · exact Text_node w0 p k nm rg kids hk ih'
end Go.Proofs.YtpicaknklgccoaaDoor
