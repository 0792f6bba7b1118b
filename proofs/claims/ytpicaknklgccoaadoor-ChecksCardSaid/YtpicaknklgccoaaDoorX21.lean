import Derived.Test.YtpicaknklgccoaaDoorX20
import Derived.Test.YtpicaknklgccoaaDoorX6
import Derived.Deep.DeepCutAuto
import Derived.Deep.LoopGhost
import Derived.Deep.Light
namespace Go.Proofs.YtpicaknklgccoaaDoor
open Go.RowKit

set_option maxRecDepth 100000 in
set_option maxHeartbeats 20000000 in
theorem build_node (ts : List Tk) (hok : TokOk ts) (hl : ts.length ≤ 9000) (placed : Bool) (gt tc cb p ids sites : Nat) (t u : Tk) (k : Kw) (w : World) (hin : BIn ts gt tc cb p ids sites w)
    (ht : ts[p]? = some t) (hu : ts[p + 1]? = some u) (hp : p + 1 < ts.length) (hids : ids ≤ p) (hsites : sites ≤ p)
    (hwk : wantsK k placed ≠ []) (h1 : t.c = .opn) (h2 : u.s = k.bytes) (nm rg : List UInt8) (kids : List PT) (r : List Tk) (hpw : PWx (GoodE ts) (wantsK k placed) (ts.drop (p + 2)) nm rg kids r) :
    Calls Tryd.prog 33 #[ptr cb] w (BOut ts gt tc cb p ids sites w (.node t.at_ k nm rg kids) ((ts.drop p).length - r.length)) := by
  obtain ⟨hne, hc, htk⟩ := hin
  have c0 : w.cell? ⟨cb, 0, none⟩ = some (.slice (some ⟨gt, 0, none⟩) ts.length tc) := by rw [blk_cell hc]; rfl
  have c1 : w.cell? ⟨cb, 1, none⟩ = some (.int .i64 p) := by rw [blk_cell hc]; rfl
  have c2 : w.cell? ⟨cb, 2, none⟩ = some (.int .i64 ids) := by rw [blk_cell hc]; rfl
  have c3 : w.cell? ⟨cb, 3, none⟩ = some (.int .i64 sites) := by rw [blk_cell hc]; rfl
  have f1 : w.frozen? ⟨cb, 1, none⟩ = false := blk_free hc 1
  have f2 : w.frozen? ⟨cb, 2, none⟩ = false := blk_free hc 2
  have f3 : w.frozen? ⟨cb, 3, none⟩ = false := blk_free hc 3
  obtain ⟨t0, t1, t2⟩ := tk_at htk ht
  obtain ⟨u0, u1, u2⟩ := tk_at htk hu
  rw [h2] at u0
  have hcb := blk_lt hc
  have hgt := (htk.lt gt rfl).2
  have hne' : cb ≠ gt := fun h => hne h.symm
  have HC : Hid (w.heap[cb]? = some (.cells (cntCells (.slice (some ⟨gt, 0, none⟩) ts.length tc) p ids sites) 70 (0, 0))) := hc
  have HTK : Hid (w.ownsRow 0 66 3 (.slice (some ⟨gt, 0, none⟩) ts.length tc) ts.length (ts.flatMap tkCells)) := htk
  have q1 : ((bs t.c.bytes).toList == [78, 85, 77, 66, 69, 82]) = false := by rw [h1, bs_beq]; decide
  have q2 : ((bs t.c.bytes).toList == [78, 65, 77, 69]) = false := by rw [h1, bs_beq]; decide
  have HP : Hid _ := hpw
  obtain ⟨d, hd⟩ : ∃ d : Nat, d = if k = .pair then 1 else 0 := ⟨_, rfl⟩
  have hd1 : d ≤ 1 := by rw [hd]; split <;> omega
  have HD : Hid _ := hd
  have hp1 : ((bs k.bytes).toList == [112, 97, 105, 114]) = (d == 1) := by rw [bs_beq, hd]; cases k <;> decide
  clear h1 hc htk ht hu h2 hpw hd
  unfold ptr
  go_enter Tryd.func33, Tryd.ntmps33
  go_wp2
  go_region
  go_wp2
  go_region
  go_wp2
  go_region
  go_upto_if 78 with fail
  go_cut [] from 6 to 85 (fun wc => wc.heap[cb]? = some (.cells (cntCells (.slice (some ⟨gt, 0, none⟩) ts.length tc) (p + 2) (ids + 1) (sites + d)) 70 (0, 0)) ∧
      wc.heap[w.heap.size]? = some (.cells (exCells k.bytes t.at_ [] 0 (.slice none 0 0) ids 0 sites) 52 (0, 0)) ∧
      wc.heap[w.heap.size + 1]? = some (.cells #[.string (bs t.s), .int .i64 t.at_, .string (bs t.c.bytes)] 66 (0, 0)) ∧ w.grownBy wc (some cb) ∧ wc.heap.size = w.heap.size + 2)
  case first =>
    as_aux_lemma =>
    clear t0 t1 t2 u0 u1 u2 q1 q2
    have hpd : (d == 1) = true ∨ (d == 1) = false := by cases (d == 1) <;> simp
    rcases hpd with hpd | hpd
    · have hd2 : d = 1 := by simpa using hpd
      have HD2 : Hid (d = 1) := hd2
      clear hd2
      go_wp2
      go_meet
      case rel =>
        obtain ⟨g1, g2, g3⟩ := pre1 HC.out
        rw [HD2.out]
        exact pre_end (.cells (exCells k.bytes t.at_ [] 0 (.slice none 0 0) ids 0 sites) 52 (0, 0)) (.cells #[.string (bs t.s), .int .i64 t.at_, .string (bs t.c.bytes)] 66 (0, 0)) g1 g2 g3 rfl rfl rfl rfl
    · have hd2 : d ≠ 1 := by simpa using hpd
      have hd3 : d = 0 := by omega
      have HD2 : Hid (d = 0) := hd3
      clear hd2 hd3
      go_wp2
      go_meet
      case rel =>
        obtain ⟨g1, g2, g3⟩ := pre0 HC.out
        rw [HD2.out]
        exact pre_end (.cells (exCells k.bytes t.at_ [] 0 (.slice none 0 0) ids 0 sites) 52 (0, 0)) (.cells #[.string (bs t.s), .int .i64 t.at_, .string (bs t.c.bytes)] 66 (0, 0)) g1 g2 g3 rfl rfl rfl rfl
  case rest =>
    as_aux_lemma =>
    obtain ⟨r1, r2, r3, r4, r5⟩ := hcut
    have hxc : cb ≠ w.heap.size := by omega
    have htc : cb ≠ w.heap.size + 1 := by omega
    have HN : Hid (LInv ts placed gt tc cb ids sites d k t.at_ nm rg kids r w w.heap.size (w.heap.size + 1) p (wantsK k placed).length wc) :=
      ⟨[], wantsK k placed, p + 2, nm, rg, [], [], kids, [], .slice none 0 0, [], _, _, _, rfl, by omega, hwk, rfl, HP.out, rfl, rfl, rfl, rfl, by simp, fun _ => rfl, fun _ => rfl, by simp [cntL]; omega, by simp [prsL]; omega,
        by simpa [cntL, prsL] using r1, r2, r3, r4, World.ownsRow_nil _ _ _ _, fun g hg => by simp [Value.ownBlock] at hg, by simp [IsTs]⟩
    have hgtx : gt ≠ w.heap.size := by omega
    have hgtt : gt ≠ w.heap.size + 1 := by omega
    clear c0 c1 c2 c3 f1 f2 f3 t0 t1 t2 u0 u1 u2 q1 q2 hp1 r1 r2 r3 r4 r5
    go_wp2
    go_loopg [5] (wantsK k placed).length (fun n _ wr => LInv ts placed gt tc cb ids sites d k t.at_ nm rg kids r w w.heap.size (w.heap.size + 1) p n wr)
    case atStart => exact HN.out
    case round =>
      as_aux_lemma =>
      obtain ⟨done, ws, q, nm', rg', nmx, rgx, kids', dk, kv, bl, T0, T1, T2, rfl, hpq, hwne, hws, hpw, hnm, hrg, hkids, hdk, hn1, hn2, hrx, hb1, hb2, hcc, hxx, htt, hgr, hkv, hkb, hkt⟩ := hrel
      have htkr := gr_owns HTK.out hgr hne
      have c0 : wr.cell? ⟨cb, 0, none⟩ = some (.slice (some ⟨gt, 0, none⟩) ts.length tc) := by rw [blk_cell hcc]; rfl
      have c1 : wr.cell? ⟨cb, 1, none⟩ = some (.int .i64 q) := by rw [blk_cell hcc]; rfl
      have f1 : wr.frozen? ⟨cb, 1, none⟩ = false := blk_free hcc 1
      have x0 : wr.cell? ⟨w.heap.size, 0, none⟩ = some (.string (bs k.bytes)) := by rw [blk_cell hxx]; rfl
      have x2 : wr.cell? ⟨w.heap.size, 2, none⟩ = some (.string (bs nmx)) := by rw [blk_cell hxx]; rfl
      have x4 : wr.cell? ⟨w.heap.size, 4, none⟩ = some kv := by rw [blk_cell hxx]; rfl
      have x3 : wr.cell? ⟨w.heap.size, 3, none⟩ = some (.int .i64 (valueL rgx)) := by rw [blk_cell hxx]; rfl
      have x6 : wr.cell? ⟨w.heap.size, 6, none⟩ = some (.int .i64 0) := by rw [blk_cell hxx]; rfl
      have y2 : wr.frozen? ⟨w.heap.size, 2, none⟩ = false := blk_free hxx 2
      have y3 : wr.frozen? ⟨w.heap.size, 3, none⟩ = false := blk_free hxx 3
      have y4 : wr.frozen? ⟨w.heap.size, 4, none⟩ = false := blk_free hxx 4
      have y6 : wr.frozen? ⟨w.heap.size, 6, none⟩ = false := blk_free hxx 6
      have z0 : wr.cell? ⟨w.heap.size + 1, 0, none⟩ = some T0 := by rw [blk_cell htt]; rfl
      have z1 : wr.cell? ⟨w.heap.size + 1, 1, none⟩ = some T1 := by rw [blk_cell htt]; rfl
      have z2 : wr.cell? ⟨w.heap.size + 1, 2, none⟩ = some T2 := by rw [blk_cell htt]; rfl
      have g0 : wr.frozen? ⟨w.heap.size + 1, 0, none⟩ = false := blk_free htt 0
      have g1 : wr.frozen? ⟨w.heap.size + 1, 1, none⟩ = false := blk_free htt 1
      have g2 : wr.frozen? ⟨w.heap.size + 1, 2, none⟩ = false := blk_free htt 2
      have hsz := hgr.size
      have hxs := blk_lt hxx
      have hts := blk_lt htt
      have HCC : Hid _ := hcc
      have HXX : Hid _ := hxx
      have HTT : Hid _ := htt
      have HGR : Hid (w.grownBy wr (some cb)) := hgr
      have HKV : Hid (wr.ownsRow 0 39 1 kv dk.length (bl.map ptr)) := hkv
      have HKB : Hid _ := hkb
      have HKT : Hid _ := hkt
      have HTKR : Hid (wr.ownsRow 0 66 3 (.slice (some ⟨gt, 0, none⟩) ts.length tc) ts.length (ts.flatMap tkCells)) := htkr
      have HALL : Hid (nm = nmx ++ nm' ∧ rg = rgx ++ rg' ∧ kids = dk ++ kids' ∧ (Wt.name ∈ done → nmx ≠ []) ∧ (Wt.name ∉ done → nmx = []) ∧ (Wt.region ∉ done → rgx = []) ∧ dk.length = cntE done ∧ wantsK k placed = done ++ ws) := ⟨hnm, hrg, hkids, hn1, hn2, hrx, hdk, hws⟩
      clear hcc hxx htt hgr hkv hkb hkt htkr hnm hrg hkids hn1 hn2 hrx hdk hws HN HP HC
      have c2 : wr.cell? ⟨cb, 2, none⟩ = some (.int .i64 (ids + 1 + cntL dk : Nat)) := by rw [blk_cell HCC.out]; rfl
      obtain ⟨lq, hlq⟩ : ∃ lq, ts.drop q = lq := ⟨_, rfl⟩
      rw [hlq] at hpw
      obtain ⟨wz, hwz⟩ : ∃ wz, wz = ws := ⟨_, rfl⟩
      rw [← hwz] at hpw
      cases hpw with
      | nil => exact absurd hwz.symm hwne
      | @close t' ws' rr _ _ _ _ hcl hrest =>
        as_aux_lemma =>
        obtain ⟨ht', hq, hrr⟩ := drop_at hlq
        obtain ⟨a0, a1, a2⟩ := tk_at HTKR.out ht'
        have hq2 : ((bs t'.c.bytes).toList == [41]) = true := by rw [hcl, bs_beq]; decide
        have HR : Hid _ := hrest
        have HRR : Hid _ := hrr
        have HWZ : Hid _ := hwz
        clear hcl hrest ht' hlq hrr hwz z0 z1 z2 g0 g1 g2 x0 x2 x3 x4 y2 y3 y4
        go_wp2
        go_region
        go_wp2
        go_ret
        go_light
        exact node_end hcb HCC.out HXX.out HGR.out HKV.out HKB.out HKT.out HALL.out HWZ.out HR.out HRR.out HD.out (by omega) hq rfl rfl rfl rfl
      | @name t' ws' rr _ nm2 _ _ hcl hrest =>
        as_aux_lemma =>
        obtain ⟨ht', hq, hrr⟩ := drop_at hlq
        obtain ⟨a0, a1, a2⟩ := tk_at HTKR.out ht'
        have hq2 : ((bs t'.c.bytes).toList == [41]) = false := by rw [hcl, bs_beq]; decide
        have hq3 : ((bs t'.c.bytes).toList == [82, 69, 71, 73, 79, 78]) = false := by rw [hcl, bs_beq]; decide
        have hq4 : ((bs t'.c.bytes).toList == [78, 65, 77, 69]) = true := by rw [hcl, bs_beq]; decide
        have hwn := wants_name (by rw [hwz]; exact HALL.out.2.2.2.2.2.2.2)
        have hnx : nmx = [] := HALL.out.2.2.2.2.1 hwn.2.1
        have hx2e : ((bs nmx).toList.isEmpty) = true := by rw [hnx, Lib.toList_data]; rfl
        have hts' : t'.s ≠ [] := hok.nam t' (List.mem_of_getElem? ht') hcl
        have HR : Hid _ := hrest
        have HRR : Hid _ := hrr
        have HWZ : Hid _ := hwz
        have HTS : Hid (t'.s ≠ []) := hts'
        have hkl : ((bs k.bytes).toList == [108, 101, 116]) = decide (k = .let_) := by rw [bs_beq]; cases k <;> decide
        have hko : ((bs k.bytes).toList == [108, 111, 111, 112]) = decide (k = .loop) := by rw [bs_beq]; cases k <;> decide
        have hwl : ws'.length < ws.length := by rw [← hwz]; simp
        have hdl := HALL.out.2.2.2.2.2.2.1
        obtain ⟨va, vc, hkv'⟩ : ∃ va vc, kv = .slice va dk.length vc := by
          rcases HKV.out.2 with ⟨h, h'⟩ | ⟨g, cap, cur, h, _⟩
          · exact ⟨none, 0, by rw [h, h']⟩
          · exact ⟨_, _, h⟩
        rw [hkv'] at x4
        have HKV' : Hid _ := hkv'
        have hcases : (decide (k = .let_) = true ∧ dk.length = 0) ∨ (decide (k = .let_) = false ∧ decide (k = .loop) = true ∧ dk.length = 1) := by
          rcases hwn.1 with ⟨h, h'⟩ | ⟨h, h'⟩
          · exact Or.inl ⟨by rw [h]; rfl, by omega⟩
          · exact Or.inr ⟨by rw [h]; rfl, by rw [h]; rfl, by omega⟩
        clear hcl hrest ht' hlq hrr hwz hwn hnx hts' hkv' hdl x3 y3 y4 y6 x6 hwne
        rcases hcases with ⟨e1, e2⟩ | ⟨e1, e2, e3⟩
        · rw [e1] at hkl
          have e2' : ((dk.length : Int) == 0) = true := by rw [e2]; rfl
          clear e1 e2 hko
          go_wp2
          go_region
          go_wp2
          go_region
          go_wp2
          go_roundg ws'.length
          case measure => exact hwl
          case rel =>
            go_light
            exact name_step hcb hxc htc HCC.out HXX.out HTT.out HGR.out HKV.out HKB.out HKT.out HALL.out HWZ.out HR.out HRR.out HTS.out hb1 hb2 hpq rfl rfl rfl rfl
        · rw [e1] at hkl
          rw [e2] at hko
          have e3' : ((dk.length : Int) == 1) = true := by rw [e3]; rfl
          clear e1 e2 e3
          go_wp2
          go_region
          go_wp2
          go_region
          go_wp2
          go_roundg ws'.length
          case measure => exact hwl
          case rel =>
            go_light
            exact name_step hcb hxc htc HCC.out HXX.out HTT.out HGR.out HKV.out HKB.out HKT.out HALL.out HWZ.out HR.out HRR.out HTS.out hb1 hb2 hpq rfl rfl rfl rfl
      | @region t' ws' rr _ _ rg2 _ hcl hrest =>
        as_aux_lemma =>
        obtain ⟨ht', hq, hrr⟩ := drop_at hlq
        obtain ⟨a0, a1, a2⟩ := tk_at HTKR.out ht'
        have hq2 : ((bs t'.c.bytes).toList == [41]) = false := by rw [hcl, bs_beq]; decide
        have hq3 : ((bs t'.c.bytes).toList == [82, 69, 71, 73, 79, 78]) = true := by rw [hcl, bs_beq]; decide
        have hsl := hok.reg t' (List.mem_of_getElem? ht') hcl
        have hval := value_any (bs t'.s)
        rw [bs_toList] at hval
        have HR : Hid _ := hrest
        have HRR : Hid _ := hrr
        have HWZ : Hid _ := hwz
        have hwl : ws'.length < ws.length := by rw [← hwz]; simp
        clear hcl hrest ht' hlq hrr hwz x0 x2 x4 y2 y4 y6 x6 hwne
        go_wp2
        go_region
        go_wp2
        go_region
        go_wp2_with (go_at_call 52; refine (hval _ (by rw [bs_size]; exact hsl)).mono ?_; rintro e w' ⟨rfl, rfl⟩)
        go_roundg ws'.length
        case measure => exact hwl
        case rel =>
          go_light
          exact region_step hcb hxc htc HCC.out HXX.out HTT.out HGR.out HKV.out HKB.out HKT.out HALL.out HWZ.out HR.out HRR.out hb1 hb2 hpq rfl rfl rfl rfl
      | @e e' ws' l' rr _ _ _ _ hgood hrest =>
        as_aux_lemma =>
        obtain ⟨hg1, hg2, ⟨t', r', hlt, htc'⟩, ⟨un, hun, hunl⟩, hgc⟩ := hgood
        have hlq' := hlq
        rw [hlt] at hlq
        obtain ⟨ht', hq, hrr⟩ := drop_at hlq
        obtain ⟨a0, a1, a2⟩ := tk_at HTKR.out ht'
        have hq2 : ((bs t'.c.bytes).toList == [41]) = false := by rcases htc' with h | h | h <;> (rw [h, bs_beq]; decide)
        have hq3 : ((bs t'.c.bytes).toList == [82, 69, 71, 73, 79, 78]) = false := by rcases htc' with h | h | h <;> (rw [h, bs_beq]; decide)
        have hkl : ((bs k.bytes).toList == [108, 101, 116]) = decide (k = .let_) := by rw [bs_beq]; cases k <;> decide
        have hko : ((bs k.bytes).toList == [108, 111, 111, 112]) = decide (k = .loop) := by rw [bs_beq]; cases k <;> decide
        have hwe := wants_e (by rw [hwz]; exact HALL.out.2.2.2.2.2.2.2)
        have hwl : ws'.length < ws.length := by rw [← hwz]; simp
        have hdl := HALL.out.2.2.2.2.2.2.1
        obtain ⟨va, vc, hkv'⟩ : ∃ va vc, kv = .slice va dk.length vc := by
          rcases HKV.out.2 with ⟨h, h'⟩ | ⟨g, cap, cur, h, _⟩
          · exact ⟨none, 0, by rw [h, h']⟩
          · exact ⟨_, _, h⟩
        have hL : lq.length = ts.length - q := by rw [← hlq']; simp
        have hrl : rr.length = lq.length - un := by rw [hun]; simp
        have hus : rr = ts.drop (q + (lq.length - rr.length)) := by
          rw [hrl, show lq.length - (lq.length - un) = un from by omega, ← List.drop_drop, hlq']; exact hun
        have HUS : Hid _ := hus
        have hu1 : ids + 1 + cntL dk + e'.cnt ≤ q + (lq.length - rr.length) := by omega
        have hu2 : sites + d + prsL dk + e'.prs ≤ q + (lq.length - rr.length) := by omega
        have HR : Hid _ := hrest
        have HWZ : Hid _ := hwz
        have HKV' : Hid _ := hkv'
        have hdk3 : dk.length ≤ 9000 := by have := len_cntL dk; omega
        have hca : ∀ W1 : World, BIn ts gt tc cb q (ids + 1 + cntL dk) (sites + d + prsL dk) W1 → Calls Tryd.prog 33 #[.pointer (some ⟨cb, 0, none⟩)] W1 (BOut ts gt tc cb q (ids + 1 + cntL dk) (sites + d + prsL dk) W1 e' (lq.length - rr.length)) :=
          fun W1 h => hgc gt tc cb q _ _ W1 hlq' (by omega) (by omega) h
        have HL : Hid (hq2 = hq2) := rfl
        obtain ⟨i0, hi, hz0, hz1, hz2⟩ := info_parts Tryd.infoPtr
        have HI : Hid _ := hi
        have HZ0 : Hid _ := hz0
        have HZ1 : Hid _ := hz1
        have HZ2 : Hid _ := hz2
        have hcases : ((bs t'.c.bytes).toList == [78, 65, 77, 69]) = false ∨
            (((bs t'.c.bytes).toList == [78, 65, 77, 69]) = true ∧ (bs nmx).toList.isEmpty = false) ∨
            (((bs t'.c.bytes).toList == [78, 65, 77, 69]) = true ∧ (bs nmx).toList.isEmpty = true ∧ decide (k = .let_) = false ∧ decide (k = .loop) = false) ∨
            (((bs t'.c.bytes).toList == [78, 65, 77, 69]) = true ∧ (bs nmx).toList.isEmpty = true ∧ decide (k = .let_) = false ∧ decide (k = .loop) = true ∧ ((dk.length : Int) == 1) = false) := by
          by_cases hn : ((bs t'.c.bytes).toList == [78, 65, 77, 69]) = true
          · cases hx : (bs nmx).toList.isEmpty with
            | false => exact Or.inr (Or.inl ⟨hn, rfl⟩)
            | true =>
              have hnx : nmx = [] := by rw [Lib.toList_data, bs_toList] at hx; simpa using hx
              have hnd : Wt.name ∉ done := fun h => HALL.out.2.2.2.1 h hnx
              rcases hwe with h | ⟨h1, h2⟩
              · exact absurd h hnd
              · by_cases hkk : k = .loop
                · exact Or.inr (Or.inr (Or.inr ⟨hn, rfl, decide_eq_false h1, decide_eq_true hkk, by have := h2 hkk; rw [beq_eq_false_iff_ne]; omega⟩))
                · exact Or.inr (Or.inr (Or.inl ⟨hn, rfl, decide_eq_false h1, decide_eq_false hkk⟩))
          · exact Or.inl (by simpa using hn)
        rw [hkv'] at x4
        clear hgc ht' hlq hlq' hrr hwz hwe hrest hdl hlt htc' hun hunl hus hL hrl hkv' hi hz0 hz1 hz2 hg1 hg2 x3 y2 y3 y6 x6 hwne HL
        have hem := e_in (t := t') (W1 := (((wr.setCell ⟨w.heap.size + 1, 0, none⟩ (.string (bs t'.s))).setCell ⟨w.heap.size + 1, 1, none⟩ (.int .i64 t'.at_)).setCell ⟨w.heap.size + 1, 2, none⟩ (.string (bs t'.c.bytes))).drew.drew) htc HCC.out HXX.out HTT.out HGR.out HKV.out HKB.out HKT.out HTKR.out hne hgtt rfl rfl rfl rfl
        have HEM : Hid _ := hem
        clear hem
        rcases hcases with hn | ⟨hn, hx⟩ | ⟨hn, hx, hk1, hk2⟩ | ⟨hn, hx, hk1, hk2, hk3⟩
        · as_aux_lemma =>
          clear hkl hko
          go_wp2
          go_region
          go_wp2
          go_region
          go_wp2_with fail
          refine (hca _ HEM.out.inn).mono ?_
          rintro e w2 ⟨b', rfl, hc2, hg2, hT2⟩
          unfold ptr
          have hsx := blk_lt HEM.out.x
          have hx2 : w2.heap[w.heap.size]? = some (.cells (exCells k.bytes t.at_ nmx (valueL rgx) kv ids 0 sites) 52 (0, 0)) := by
            rw [hg2.block _ hsx (fun e => hxc (by cases e; rfl))]; exact HEM.out.x
          have x42 : w2.cell? ⟨w.heap.size, 4, none⟩ = some (.slice va dk.length vc) := by rw [blk_cell hx2, ← HKV'.out]; rfl
          have hs12 := hg2.size
          have hxw2 : w.heap.size < w2.heap.size := blk_lt hx2
          have hnk : ∀ b, b < w.heap.size + 2 → kv.ownBlock ≠ some b := fun b hb e => by have := HKB.out b e; omega
          have how2 : w2.ownsRow 0 39 1 kv dk.length (bl.map ptr) := owns_blk HEM.out.ow (fun g hg => hg2.block g (HEM.out.ow.lt g hg).2 (fun e => hnk cb (by omega) (by cases e; exact hg)))
          have HOW2 : Hid (w2.ownsRow 0 39 1 (.slice va dk.length vc) dk.length (bl.map ptr)) := by rw [← HKV'.out]; exact how2
          have HC2 : Hid _ := hc2
          have HG2 : Hid (World.grownBy _ w2 (some cb)) := hg2
          have HT2 : Hid _ := hT2
          have HX2 : Hid _ := hx2
          have HNK : Hid _ := hnk
          clear hc2 hg2 hT2 hx2 how2 hnk hsx
          go_wp2_with (at_builtin; go_must (refine app_own _ rfl (.tmp 182) (.tmp 184) 48 rfl 39 i0 _ 1 8 Tryd.undPtrs HI.out HZ0.out HZ1.out HZ2.out rfl (by decide) (.slice va dk.length vc) dk.length (bl.map ptr) rfl (HOW2.out.alloc _) ⟨w2.heap.size, 0, none⟩ 1 1 [ptr b'] rfl rfl (one_new w2 (ptr b') _) (one_ptr b') (by decide) (by unfold maxLen; omega) (by omega) ?_))
          intro g cap w3 ho3 hg3 hgg
          have hx3 : w3.heap[w.heap.size]? = some (.cells (exCells k.bytes t.at_ nmx (valueL rgx) kv ids 0 sites) 52 (0, 0)) := by
            rw [hg3.block _ (by simp; omega) (fun e => HNK.out w.heap.size (by omega) (by rw [HKV'.out]; exact e.symm)), Below.heap_alloc _ _ _ hxw2]; exact HX2.out
          have x43 : w3.cell? ⟨w.heap.size, 4, none⟩ = some kv := by rw [blk_cell hx3]; rfl
          have y43 : w3.frozen? ⟨w.heap.size, 4, none⟩ = false := blk_free hx3 4
          have HO3 : Hid (w3.ownsRow 0 39 1 (.slice (some ⟨g, 0, none⟩) (dk.length + 1) cap) (dk.length + 1) (bl.map ptr ++ [ptr b'])) := ho3
          have HG3 : Hid ((w2.alloc (.cells #[ptr b'] 39)).grownBy w3 kv.ownBlock) := by rw [HKV'.out]; exact hg3
          have hgg2 : kv.ownBlock = some g ∨ (w2.alloc (.cells #[ptr b'] 39)).heap.size ≤ g := by rw [HKV'.out]; simpa using hgg
          have HGG : Hid (kv.ownBlock = some g ∨ (w2.alloc (.cells #[ptr b'] 39)).heap.size ≤ g) := hgg2
          clear ho3 hg3 hgg hgg2 hx3
          go_wp2
          go_roundg ws'.length
          case measure => exact hwl
          case rel =>
            go_light
            exact e_out hcb HEM.out HKB.out HALL.out HWZ.out HR.out HUS.out hu1 hu2 hpq HC2.out HG2.out HT2.out HG3.out HO3.out HGG.out rfl rfl rfl rfl
        · as_aux_lemma =>
          clear hkl hko
          go_wp2
          go_region
          go_wp2
          go_region
          go_wp2_with fail
          refine (hca _ HEM.out.inn).mono ?_
          rintro e w2 ⟨b', rfl, hc2, hg2, hT2⟩
          unfold ptr
          have hsx := blk_lt HEM.out.x
          have hx2 : w2.heap[w.heap.size]? = some (.cells (exCells k.bytes t.at_ nmx (valueL rgx) kv ids 0 sites) 52 (0, 0)) := by
            rw [hg2.block _ hsx (fun e => hxc (by cases e; rfl))]; exact HEM.out.x
          have x42 : w2.cell? ⟨w.heap.size, 4, none⟩ = some (.slice va dk.length vc) := by rw [blk_cell hx2, ← HKV'.out]; rfl
          have hs12 := hg2.size
          have hxw2 : w.heap.size < w2.heap.size := blk_lt hx2
          have hnk : ∀ b, b < w.heap.size + 2 → kv.ownBlock ≠ some b := fun b hb e => by have := HKB.out b e; omega
          have how2 : w2.ownsRow 0 39 1 kv dk.length (bl.map ptr) := owns_blk HEM.out.ow (fun g hg => hg2.block g (HEM.out.ow.lt g hg).2 (fun e => hnk cb (by omega) (by cases e; exact hg)))
          have HOW2 : Hid (w2.ownsRow 0 39 1 (.slice va dk.length vc) dk.length (bl.map ptr)) := by rw [← HKV'.out]; exact how2
          have HC2 : Hid _ := hc2
          have HG2 : Hid (World.grownBy _ w2 (some cb)) := hg2
          have HT2 : Hid _ := hT2
          have HX2 : Hid _ := hx2
          have HNK : Hid _ := hnk
          clear hc2 hg2 hT2 hx2 how2 hnk hsx
          go_wp2_with (at_builtin; go_must (refine app_own _ rfl (.tmp 182) (.tmp 184) 48 rfl 39 i0 _ 1 8 Tryd.undPtrs HI.out HZ0.out HZ1.out HZ2.out rfl (by decide) (.slice va dk.length vc) dk.length (bl.map ptr) rfl (HOW2.out.alloc _) ⟨w2.heap.size, 0, none⟩ 1 1 [ptr b'] rfl rfl (one_new w2 (ptr b') _) (one_ptr b') (by decide) (by unfold maxLen; omega) (by omega) ?_))
          intro g cap w3 ho3 hg3 hgg
          have hx3 : w3.heap[w.heap.size]? = some (.cells (exCells k.bytes t.at_ nmx (valueL rgx) kv ids 0 sites) 52 (0, 0)) := by
            rw [hg3.block _ (by simp; omega) (fun e => HNK.out w.heap.size (by omega) (by rw [HKV'.out]; exact e.symm)), Below.heap_alloc _ _ _ hxw2]; exact HX2.out
          have x43 : w3.cell? ⟨w.heap.size, 4, none⟩ = some kv := by rw [blk_cell hx3]; rfl
          have y43 : w3.frozen? ⟨w.heap.size, 4, none⟩ = false := blk_free hx3 4
          have HO3 : Hid (w3.ownsRow 0 39 1 (.slice (some ⟨g, 0, none⟩) (dk.length + 1) cap) (dk.length + 1) (bl.map ptr ++ [ptr b'])) := ho3
          have HG3 : Hid ((w2.alloc (.cells #[ptr b'] 39)).grownBy w3 kv.ownBlock) := by rw [HKV'.out]; exact hg3
          have hgg2 : kv.ownBlock = some g ∨ (w2.alloc (.cells #[ptr b'] 39)).heap.size ≤ g := by rw [HKV'.out]; simpa using hgg
          have HGG : Hid (kv.ownBlock = some g ∨ (w2.alloc (.cells #[ptr b'] 39)).heap.size ≤ g) := hgg2
          clear ho3 hg3 hgg hgg2 hx3
          go_wp2
          go_roundg ws'.length
          case measure => exact hwl
          case rel =>
            go_light
            exact e_out hcb HEM.out HKB.out HALL.out HWZ.out HR.out HUS.out hu1 hu2 hpq HC2.out HG2.out HT2.out HG3.out HO3.out HGG.out rfl rfl rfl rfl
        · as_aux_lemma =>
          rw [hk1] at hkl
          rw [hk2] at hko
          clear hk1 hk2
          go_wp2
          go_region
          go_wp2
          go_region
          go_wp2_with fail
          refine (hca _ HEM.out.inn).mono ?_
          rintro e w2 ⟨b', rfl, hc2, hg2, hT2⟩
          unfold ptr
          have hsx := blk_lt HEM.out.x
          have hx2 : w2.heap[w.heap.size]? = some (.cells (exCells k.bytes t.at_ nmx (valueL rgx) kv ids 0 sites) 52 (0, 0)) := by
            rw [hg2.block _ hsx (fun e => hxc (by cases e; rfl))]; exact HEM.out.x
          have x42 : w2.cell? ⟨w.heap.size, 4, none⟩ = some (.slice va dk.length vc) := by rw [blk_cell hx2, ← HKV'.out]; rfl
          have hs12 := hg2.size
          have hxw2 : w.heap.size < w2.heap.size := blk_lt hx2
          have hnk : ∀ b, b < w.heap.size + 2 → kv.ownBlock ≠ some b := fun b hb e => by have := HKB.out b e; omega
          have how2 : w2.ownsRow 0 39 1 kv dk.length (bl.map ptr) := owns_blk HEM.out.ow (fun g hg => hg2.block g (HEM.out.ow.lt g hg).2 (fun e => hnk cb (by omega) (by cases e; exact hg)))
          have HOW2 : Hid (w2.ownsRow 0 39 1 (.slice va dk.length vc) dk.length (bl.map ptr)) := by rw [← HKV'.out]; exact how2
          have HC2 : Hid _ := hc2
          have HG2 : Hid (World.grownBy _ w2 (some cb)) := hg2
          have HT2 : Hid _ := hT2
          have HX2 : Hid _ := hx2
          have HNK : Hid _ := hnk
          clear hc2 hg2 hT2 hx2 how2 hnk hsx
          go_wp2_with (at_builtin; go_must (refine app_own _ rfl (.tmp 182) (.tmp 184) 48 rfl 39 i0 _ 1 8 Tryd.undPtrs HI.out HZ0.out HZ1.out HZ2.out rfl (by decide) (.slice va dk.length vc) dk.length (bl.map ptr) rfl (HOW2.out.alloc _) ⟨w2.heap.size, 0, none⟩ 1 1 [ptr b'] rfl rfl (one_new w2 (ptr b') _) (one_ptr b') (by decide) (by unfold maxLen; omega) (by omega) ?_))
          intro g cap w3 ho3 hg3 hgg
          have hx3 : w3.heap[w.heap.size]? = some (.cells (exCells k.bytes t.at_ nmx (valueL rgx) kv ids 0 sites) 52 (0, 0)) := by
            rw [hg3.block _ (by simp; omega) (fun e => HNK.out w.heap.size (by omega) (by rw [HKV'.out]; exact e.symm)), Below.heap_alloc _ _ _ hxw2]; exact HX2.out
          have x43 : w3.cell? ⟨w.heap.size, 4, none⟩ = some kv := by rw [blk_cell hx3]; rfl
          have y43 : w3.frozen? ⟨w.heap.size, 4, none⟩ = false := blk_free hx3 4
          have HO3 : Hid (w3.ownsRow 0 39 1 (.slice (some ⟨g, 0, none⟩) (dk.length + 1) cap) (dk.length + 1) (bl.map ptr ++ [ptr b'])) := ho3
          have HG3 : Hid ((w2.alloc (.cells #[ptr b'] 39)).grownBy w3 kv.ownBlock) := by rw [HKV'.out]; exact hg3
          have hgg2 : kv.ownBlock = some g ∨ (w2.alloc (.cells #[ptr b'] 39)).heap.size ≤ g := by rw [HKV'.out]; simpa using hgg
          have HGG : Hid (kv.ownBlock = some g ∨ (w2.alloc (.cells #[ptr b'] 39)).heap.size ≤ g) := hgg2
          clear ho3 hg3 hgg hgg2 hx3
          go_wp2
          go_roundg ws'.length
          case measure => exact hwl
          case rel =>
            go_light
            exact e_out hcb HEM.out HKB.out HALL.out HWZ.out HR.out HUS.out hu1 hu2 hpq HC2.out HG2.out HT2.out HG3.out HO3.out HGG.out rfl rfl rfl rfl
        · as_aux_lemma =>
          rw [hk1] at hkl
          rw [hk2] at hko
          clear hk1 hk2
          go_wp2
          go_region
          go_wp2
          go_region
          go_wp2_with fail
          refine (hca _ HEM.out.inn).mono ?_
          rintro e w2 ⟨b', rfl, hc2, hg2, hT2⟩
          unfold ptr
          have hsx := blk_lt HEM.out.x
          have hx2 : w2.heap[w.heap.size]? = some (.cells (exCells k.bytes t.at_ nmx (valueL rgx) kv ids 0 sites) 52 (0, 0)) := by
            rw [hg2.block _ hsx (fun e => hxc (by cases e; rfl))]; exact HEM.out.x
          have x42 : w2.cell? ⟨w.heap.size, 4, none⟩ = some (.slice va dk.length vc) := by rw [blk_cell hx2, ← HKV'.out]; rfl
          have hs12 := hg2.size
          have hxw2 : w.heap.size < w2.heap.size := blk_lt hx2
          have hnk : ∀ b, b < w.heap.size + 2 → kv.ownBlock ≠ some b := fun b hb e => by have := HKB.out b e; omega
          have how2 : w2.ownsRow 0 39 1 kv dk.length (bl.map ptr) := owns_blk HEM.out.ow (fun g hg => hg2.block g (HEM.out.ow.lt g hg).2 (fun e => hnk cb (by omega) (by cases e; exact hg)))
          have HOW2 : Hid (w2.ownsRow 0 39 1 (.slice va dk.length vc) dk.length (bl.map ptr)) := by rw [← HKV'.out]; exact how2
          have HC2 : Hid _ := hc2
          have HG2 : Hid (World.grownBy _ w2 (some cb)) := hg2
          have HT2 : Hid _ := hT2
          have HX2 : Hid _ := hx2
          have HNK : Hid _ := hnk
          clear hc2 hg2 hT2 hx2 how2 hnk hsx
          go_wp2_with (at_builtin; go_must (refine app_own _ rfl (.tmp 182) (.tmp 184) 48 rfl 39 i0 _ 1 8 Tryd.undPtrs HI.out HZ0.out HZ1.out HZ2.out rfl (by decide) (.slice va dk.length vc) dk.length (bl.map ptr) rfl (HOW2.out.alloc _) ⟨w2.heap.size, 0, none⟩ 1 1 [ptr b'] rfl rfl (one_new w2 (ptr b') _) (one_ptr b') (by decide) (by unfold maxLen; omega) (by omega) ?_))
          intro g cap w3 ho3 hg3 hgg
          have hx3 : w3.heap[w.heap.size]? = some (.cells (exCells k.bytes t.at_ nmx (valueL rgx) kv ids 0 sites) 52 (0, 0)) := by
            rw [hg3.block _ (by simp; omega) (fun e => HNK.out w.heap.size (by omega) (by rw [HKV'.out]; exact e.symm)), Below.heap_alloc _ _ _ hxw2]; exact HX2.out
          have x43 : w3.cell? ⟨w.heap.size, 4, none⟩ = some kv := by rw [blk_cell hx3]; rfl
          have y43 : w3.frozen? ⟨w.heap.size, 4, none⟩ = false := blk_free hx3 4
          have HO3 : Hid (w3.ownsRow 0 39 1 (.slice (some ⟨g, 0, none⟩) (dk.length + 1) cap) (dk.length + 1) (bl.map ptr ++ [ptr b'])) := ho3
          have HG3 : Hid ((w2.alloc (.cells #[ptr b'] 39)).grownBy w3 kv.ownBlock) := by rw [HKV'.out]; exact hg3
          have hgg2 : kv.ownBlock = some g ∨ (w2.alloc (.cells #[ptr b'] 39)).heap.size ≤ g := by rw [HKV'.out]; simpa using hgg
          have HGG : Hid (kv.ownBlock = some g ∨ (w2.alloc (.cells #[ptr b'] 39)).heap.size ≤ g) := hgg2
          clear ho3 hg3 hgg hgg2 hx3
          go_wp2
          go_roundg ws'.length
          case measure => exact hwl
          case rel =>
            go_light
            exact e_out hcb HEM.out HKB.out HALL.out HWZ.out HR.out HUS.out hu1 hu2 hpq HC2.out HG2.out HT2.out HG3.out HO3.out HGG.out rfl rfl rfl rfl
end Go.Proofs.YtpicaknklgccoaaDoor
