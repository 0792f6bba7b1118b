import Derived.Test.YtpicaknklgccoaaGreatDoorP33
import Derived.Deep.AppendLies
namespace Go.Proofs.YtpicaknklgccoaaGreatDoor
open Go.RowKit
theorem nat_at {w : World} {E : List Nat} {g cap base n : Nat} (h : w.ownsRow base 3 1 (.slice (some ⟨g, 0, none⟩) n cap) n (natVs E)) (hl : E.length = n) (k : Nat) (hk : k < n) : w.cell? ⟨g, k, none⟩ = some (.int .i64 ((E.getD k 0 : Nat) : Int)) := by
 subst hl
 rw [natVs_at h k hk]; simp [List.getD, List.getElem?_eq_getElem hk]
theorem nat_put {w : World} {E : List Nat} {g cap base n : Nat} (h : w.ownsRow base 3 1 (.slice (some ⟨g, 0, none⟩) n cap) n (natVs E)) (k x : Nat) : (w.setCell ⟨g, k, none⟩ (.int .i64 (x : Nat))).ownsRow base 3 1 (.slice (some ⟨g, 0, none⟩) n cap) n (natVs (E.set k x)) := by
 have := own_set h k (.int .i64 (x : Nat))
 rw [show natVs (E.set k x) = (natVs E).set k (.int .i64 (x : Nat)) by simp [natVs, List.map_set]]
 exact this
def rgR (n i : Nat) : List Nat := List.range i ++ List.replicate (n - i) 0
theorem rgR_len (n i : Nat) (h : i ≤ n) : (rgR n i).length = n := by simp [rgR]; omega
theorem rgR_set (n i : Nat) (h : i < n) : rgR n (i + 1) = (rgR n i).set i i := by
 unfold rgR
 rw [List.set_append_right _ _ (by rw [List.length_range]; exact Nat.le_refl _), List.length_range, Nat.sub_self, show n - i = (n - (i + 1)) + 1 by omega, List.replicate_succ, List.range_succ]
 simp
set_option maxRecDepth 100000 in
set_option maxHeartbeats 8000000 in
theorem refPlace_ok {P : List Nat → Prop} (s : ByteArray) (w : World) (e : PT) (TYf : List Nat → List Ty) (hcnt : e.cnt ≤ 9000) (hwf : e.wf) (htame : e.tame) (hnn : NoNew e) (hprs : e.prs ≤ 100) (hit : ∀ w1, Below w.heap.size w w1 → ItoaOk w1)
  (hP0 : P (List.range e.prs)) (hI : ∀ c, P c → ShI e TYf e.prs c) (hSm : ∀ c, P c → ∀ x ∈ c, x < e.prs) (hR : ∀ c, P c → ShI e TYf e.prs (rkL c e.prs).1)
  (hS : ∀ c x y, P c → ptdL (TYf c) (e.subs 0 0) = some (x, y) → P (mgL (min x y) (max x y) c) ∧ max x y ∈ c ∧ x ≠ y)
  (hlen : ∀ c, P c → ptdL (TYf c) (e.subs 0 0) = none → (e.rtx (rkL c e.prs).1 (nwR (e.recs 0 0) (TYf (rkL c e.prs).1) (rkL c e.prs).2) 0 0).length ≤ 180000000)
  (hst : ∀ w1, Below w.heap.size w w1 → Calls Tryz.prog 33 #[.string s, .bool false] w1 fun v w' => ∃ b yb y, v = .returned (.tuple #[.pointer (some ⟨b, 0, none⟩), .pointer (some ⟨yb, 0, none⟩), .int .i64 0, .int .i64 y]) ∧ Below w1.heap.size w1 w' ∧ IsT w' (fun k => k < w'.heap.size) e 0 0 b) :
  Calls Tryz.prog 17 #[.string s] w fun v w' => ∃ c, P c ∧ ptdL (TYf c) (e.subs 0 0) = none ∧ v = .returned (.tuple #[.string (bs (e.rtx (rkL c e.prs).1 (nwR (e.recs 0 0) (TYf (rkL c e.prs).1) (rkL c e.prs).2) 0 0)), .int .i64 0]) ∧ Below w.heap.size w w' := by
 obtain ⟨i0, hi, hz0, hz1, hz2⟩ := info_parts Tryz.infoInt
 have HI : Hid _ := hi
 have HZ0 : Hid _ := hz0
 have HZ1 : Hid _ := hz1
 have HZ2 : Hid _ := hz2
 obtain ⟨j0, hj, hy0, hy1, hy2⟩ := info_parts Tryz.infoInts
 have HJ : Hid _ := hj
 have HY0 : Hid _ := hy0
 have HY1 : Hid _ := hy1
 have HY2 : Hid _ := hy2
 have HWF : Hid _ := hwf
 have HTM : Hid _ := htame
 have HNN : Hid _ := hnn
 have HIT : Hid _ := hit
 have HIC : Hid _ := hI
 have HSM : Hid _ := hSm
 have HR : Hid _ := hR
 have HS : Hid _ := hS
 have HST : Hid _ := hst
 have HLN : Hid _ := hlen
 have HP0 : Hid _ := hP0
 clear hi hz0 hz1 hz2 hj hy0 hy1 hy2 hwf htame hnn hit hI hSm hR hS hst hlen hP0
 go_enter Tryz.func17, Tryz.ntmps17
 go_wp2_with fail
 refine (HST.out _ (Below.refl _ _)).mono ?_
 rintro _ w1 ⟨b, yb, y, rfl, hb1, hT1⟩
 have HB1 : Hid _ := hb1
 have HT1 : Hid _ := hT1
 have hpa := pairs_any e b _ w1 hcnt hT1
 unfold ptr at hpa
 have hlast : w1.cell? ⟨b, 6, none⟩ = some (.int .i64 ((e.cnt - 1 : Nat) : Int)) := by
  obtain ⟨op, nm, n, kv, hb⟩ := isT_last hT1
  rw [blk_cell hb]; simp [exCells]
 have hbl1 : b < w1.heap.size := by
  obtain ⟨op, nm, n, kv, hb⟩ := isT_last hT1
  exact blk_lt hb
 have HLAST : Hid _ := hlast
 clear hb1 hT1 hlast
 go_wp2_with fail
 refine hpa.mono ?_
 rintro _ w2 ⟨gp, capp, vsp, rfl, hb2, _, _⟩
 have HB2 : Hid _ := hb2
 obtain ⟨n, hn⟩ : ∃ n, n = e.prs := ⟨_, rfl⟩
 rw [← hn]
 have HN : Hid _ := hn
 have hn100 : n ≤ 100 := by omega
 clear hpa hb2 hn hprs
 go_wp2_with (first | (at_make; go_must (refine wpList_make_full _ rfl (.tmp 31) (.tmp 31) 42 rfl w1.heap.size 3 i0 _ 1 Tryz.undInts HI.out HZ0.out HZ1.out .i64 .i64 _ _ n rfl rfl rfl rfl ?m1 ?m2 ?m3 ?_)))
 case m1 => rw [HZ2.out]; omega
 case m2 => unfold maxLen; omega
 case m3 => exact HB2.out.size
 intro w3 ho3 hg3
 have hb3 : Below w2.heap.size w2 w3 := ⟨hg3.os, hg3.tape, hg3.output, hg3.size, fun k hk => hg3.block k hk (by simp)⟩
 obtain ⟨gc, hgc⟩ : ∃ gc, gc = w2.heap.size := ⟨_, rfl⟩
 have HO3 : Hid (w3.ownsRow w1.heap.size 3 1 (.slice (some ⟨gc, 0, none⟩) n n) n (natVs (rgR n 0))) := by
  rw [hgc, show natVs (rgR n 0) = (madeCells #[Value.int .i64 0] n).toList from by rw [made1]; simp [natVs, rgR]]; exact ho3
 have hgc0 : w1.heap.size ≤ gc := by have := HB2.out.size; omega
 rw [← hgc]
 have HB3 : Hid (Below w1.heap.size w1 w3) := (show Below _ _ _ from HB2.out.trans (hb3.mono HB2.out.size))
 clear ho3 hg3 hb3 hgc
 go_wp2
 go_loopw [10] (fun i wr => ∃ j : Nat, j ≤ n ∧ i = .int .i64 j ∧ Below w1.heap.size w1 wr ∧ wr.ownsRow w1.heap.size 3 1 (.slice (some ⟨gc, 0, none⟩) n n) n (natVs (rgR n j))) (fun i _ => n - (intOf i).toNat)
 case atStart => exact ⟨0, Nat.zero_le _, rfl, HB3.out, HO3.out⟩
 case round =>
  obtain ⟨j, hj, rfl, hbr, hor⟩ := hrel
  have HBR : Hid _ := hbr
  have HOR : Hid (wr.ownsRow w1.heap.size 3 1 (.slice (some ⟨gc, 0, none⟩) n n) n (natVs (rgR n j))) := hor
  have hgl : gc < wr.heap.size := (hor.lt gc rfl).2
  by_cases hjn : j < n
  ·have hcv := nat_at hor (rgR_len n j hj) j hjn
   generalize (rgR n j).getD j 0 = cv at hcv
   have hfr := own_free hor j
   have HN2 : Hid (rgR n (j + 1) = (rgR n j).set j j) := rgR_set n j hjn
   clear hbr hor
   go_wp2
   go_roundw
   case rel =>
    refine ⟨j + 1, by omega, by go_num, bel_set HBR.out hgc0, ?_⟩
    rw [HN2.out]
    exact nat_put HOR.out j j
   case measure => simp [intOf]; omega
  ·have hjn' : j = n := by omega
   have hfin : rgR n j = List.range e.prs := by rw [hjn', ← HN.out]; simp [rgR]
   rw [hfin] at hor
   have hsh := shared_any (P := P) w1 wr e TYf b n gc n (List.range e.prs) hcnt HWF.out (by omega) HT1.out hbr hor HP0.out (by rw [HN.out]; exact HIC.out) HS.out
   clear hfin hor hbr HOR HBR
   go_wp2_with fail
   refine hsh.mono ?_
   rintro _ w4 ⟨c, rfl, hpc, hptd, ho4, hb4⟩
   have HPC : Hid _ := hpc
   have HPTD : Hid _ := hptd
   have HO4 : Hid (w4.ownsRow w1.heap.size 3 1 (.slice (some ⟨gc, 0, none⟩) n n) n (natVs c)) := ho4
   have HB4 : Hid _ := hb4
   have hcl : c.length = n := by rw [HN.out]; exact (HIC.out c hpc).len
   have hgcl4 : gc < w4.heap.size := (ho4.lt gc rfl).2
   clear hsh hpc hptd ho4 hb4
   go_wp2_with (first | (at_make; go_must (refine wpList_make_full _ rfl (.tmp 45) (.tmp 45) 42 rfl w1.heap.size 3 i0 _ 1 Tryz.undInts HI.out HZ0.out HZ1.out .i64 .i64 _ _ n rfl rfl rfl rfl ?m1 ?m2 ?m3 ?_)))
   case m1 => rw [HZ2.out]; omega
   case m2 => unfold maxLen; omega
   case m3 => exact HB4.out.size
   intro w5 ho5 hg5
   have hb5 : Below w4.heap.size w4 w5 := ⟨hg5.os, hg5.tape, hg5.output, hg5.size, fun k hk => hg5.block k hk (by simp)⟩
   obtain ⟨gr, hgr⟩ : ∃ gr, gr = w4.heap.size := ⟨_, rfl⟩
   have HO5 : Hid (w5.ownsRow w1.heap.size 3 1 (.slice (some ⟨gr, 0, none⟩) n n) n (natVs (rkR c n 0))) := by
    rw [hgr, show natVs (rkR c n 0) = (madeCells #[Value.int .i64 0] n).toList from by rw [made1]; simp [natVs, rkR, rkL]]; exact ho5
   have hgr0 : w4.heap.size ≤ gr := by omega
   rw [← hgr]
   have HB5 : Hid _ := hb5
   clear ho5 hg5 hb5 hgr
   go_wp2
   go_loopw [12, 13] (fun vk i wr => ∃ j : Nat, j ≤ n ∧ i = .int .i64 j ∧ vk = .int .i64 ((rkL c j).2 : Nat) ∧ Below w4.heap.size w4 wr ∧ wr.ownsRow w1.heap.size 3 1 (.slice (some ⟨gr, 0, none⟩) n n) n (natVs (rkR c n j))) (fun _ i _ => n - (intOf i).toNat)
   case atStart => exact ⟨0, Nat.zero_le _, rfl, rfl, HB5.out, HO5.out⟩
   case round =>
    obtain ⟨q, hq, rfl, rfl, hbr, hor⟩ := hrel
    have HBR : Hid _ := hbr
    have HOR : Hid (wr.ownsRow w1.heap.size 3 1 (.slice (some ⟨gr, 0, none⟩) n n) n (natVs (rkR c n q))) := hor
    have hgrl : gr < wr.heap.size := (hor.lt gr rfl).2
    have hgcl : gc < wr.heap.size := by have := hbr.size; omega
    have hkle := rkL_le c q
    by_cases hqn : q < n
    ·have c1 : wr.cell? ⟨gc, q, none⟩ = some (.int .i64 ((c.getD q 0 : Nat) : Int)) := (hbr.cell (p := ⟨gc, q, none⟩) hgcl4).trans (nat_at HO4.out hcl q hqn)
     have hfr := own_free hor q
     have c2 := nat_at hor (rkR_len c n q hq) q hqn
     have hcn : c.getD q 0 < n := by
      have : c.getD q 0 ∈ c := by rw [List.getD, List.getElem?_eq_getElem (by omega)]; exact List.getElem_mem _
      rw [HN.out]; exact HSM.out c HPC.out _ this
     generalize (rkR c n q).getD q 0 = z2 at c2
     by_cases hcq : c.getD q 0 = q
     ·have HS1 : Hid _ := rkR_yes c n q hqn hcq
      rw [hcq] at c1
      generalize (rkL c q).2 = kq at *
      clear hbr hor hcq
      go_wp2
      go_roundw
      case rel => exact ⟨q + 1, by omega, by go_num, by rw [HS1.out.2]; go_num, bel_set HBR.out hgr0, by rw [HS1.out.1]; exact nat_put HOR.out q kq⟩
      case measure => simp [intOf]; omega
     ·have HS1 : Hid _ := rkR_no c n q hqn hcq
      have c3 := nat_at hor (rkR_len c n q hq) (c.getD q 0) hcn
      generalize (rkR c n q).getD (c.getD q 0) 0 = z3 at *
      generalize c.getD q 0 = cq at *
      have hne : ((cq : Int) == (q : Int)) = false := by simp; omega
      have HKQ : Hid ((rkL c q).2 = (rkL c (q + 1)).2) := HS1.out.2.symm
      generalize (rkL c q).2 = kq at *
      clear hbr hor hcq
      go_wp2
      go_roundw
      case rel => exact ⟨q + 1, by omega, by go_num, by rw [HKQ.out], bel_set HBR.out hgr0, by rw [HS1.out.1]; exact nat_put HOR.out q z3⟩
      case measure => simp [intOf]; omega
    ·have hqn' : q = n := by omega
     have hfin : rkR c n q = (rkL c e.prs).1 := by rw [hqn', ← HN.out]; simp [rkR]
     have hkfin : (rkL c q).2 = (rkL c e.prs).2 := by rw [hqn', HN.out]
     rw [hfin] at hor
     rw [hkfin] at hkle ⊢
     have hsi := HR.out c HPC.out
     have hb1r : Below w1.heap.size w1 wr := HB4.out.trans (hbr.mono HB4.out.size)
     have hlr : (rkL c e.prs).1.length = n := by rw [rkL_len, HN.out]
     have hor2 := hor
     rw [← hlr] at hor2
     have hty := Types_any (itFor_small w1 (rkL c e.prs).1 hsi.sm) (by omega) e HWF.out b _ _ wr HT1.out hcnt hb1r hor2 (by rw [hlr, HN.out]; exact Nat.le_refl _) ⟨_, _, _, rfl⟩
     rw [hlr] at hty
     unfold ptr at hty
     have HLN2 : Hid _ := HLN.out c HPC.out HPTD.out
     have hrk : ∀ x ∈ (rkL c e.prs).1, x ≤ 999 := fun x hx => by have := hsi.sm x hx; omega
     have HRK : Hid _ := hrk
     generalize hRK : (rkL c e.prs).1 = RK at *
     generalize hKK : (rkL c e.prs).2 = K at *
     have HRKE : Hid (RK = (rkL c e.prs).1 ∧ K = (rkL c e.prs).2) := ⟨hRK.symm, hKK.symm⟩
     have HSI : Hid _ := hsi
     clear hfin hkfin hor hor2 hbr HOR HBR hsi hrk hRK hKK
     go_wp2_with fail
     refine hty.mono ?_
     rintro _ w7 ⟨yb7, nv7, tv7, ov7, rfl, _, hb7, hin7⟩
     have HO7 : Hid (OfIn w7 yb7 (TYf RK)) := ofIn_ty hin7 HSI.out.of (by rw [HSI.out.tl]; exact cnt_pos e)
     have hc7 := hin7.c
     rw [hlr] at hc7
     have HC7 : Hid (w7.ownsRow w1.heap.size 3 1 (.slice (some ⟨gr, 0, none⟩) n n) n (natVs RK)) := hc7
     have HB7 : Hid (Below w1.heap.size w1 w7) := hin7.b0
     have hl7 : w7.cell? ⟨b, 6, none⟩ = some (.int .i64 ((e.cnt - 1 : Nat) : Int)) := (hin7.b0.cell (p := ⟨b, 6, none⟩) hbl1).trans HLAST.out
     have hbl7 : b < w7.heap.size := by have := hin7.b0.size; omega
     have hcp := cnt_pos e
     obtain ⟨m, hm⟩ : ∃ m, m = e.cnt := ⟨_, rfl⟩
     rw [← hm] at hl7 hcnt hcp
     have HM : Hid _ := hm
     clear hty hin7 hb7 hm hc7
     go_wp2_with (first | (at_make; go_must (refine wpList_make_full _ rfl (.tmp 81) (.tmp 81) 80 rfl w7.heap.size 42 j0 _ 1 Tryz.undNws HJ.out HY0.out HY1.out .i64 .i64 _ _ m rfl rfl ?l1 ?l2 ?m1 ?m2 ?m3 ?_)))
     case l1 => omega
     case l2 => omega
     case m1 => rw [HY2.out]; omega
     case m2 => unfold maxLen; omega
     case m3 => exact Nat.le_refl _
     intro w8 ho8 hg8
     have hb8 : Below w7.heap.size w7 w8 := ⟨hg8.os, hg8.tape, hg8.output, hg8.size, fun k hk => hg8.block k hk (by simp)⟩
     obtain ⟨gn, hgn⟩ : ∃ gn, gn = w7.heap.size := ⟨_, rfl⟩
     have hrll : (e.recs 0 0).length = m := by rw [HM.out]; exact recs_len e 0 0
     have hlenR : ∀ r, (nwR (e.recs 0 0) (TYf RK) r).length = m := fun r => by rw [nwR_len]; exact hrll
     have HLENR : Hid _ := hlenR
     have HO8 : Hid (NwM w7.heap.size w8 gn (nwR (e.recs 0 0) (TYf RK) 0) (List.replicate m (.slice none 0 0))) := by
      refine ⟨?_, fun i l hl => ?_, fun i j g u v h1 h2 h3 h4 => ?_⟩
      ·rw [hlenR 0, hgn, ← made1]; exact ho8
      ·simp only [nwR] at hl
       rw [List.getElem?_replicate] at hl
       split at hl
       ·cases hl
        refine ⟨.slice none 0 0, by rw [List.getElem?_replicate, if_pos (by omega)], World.ownsRow_nil _ _ _ _, by simp [Value.ownBlock]⟩
       ·cases hl
      ·rw [List.getElem?_replicate] at h1
       split at h1
       ·cases h1; simp [Value.ownBlock] at h3
       ·cases h1
     have hgn0 : w7.heap.size ≤ gn := by omega
     rw [← hgn]
     have HB8 : Hid _ := hb8
     clear ho8 hg8 hb8 hgn hlenR
     obtain ⟨rl, hrl⟩ : ∃ rl, rl = e.recs 0 0 := ⟨_, rfl⟩
     obtain ⟨TY, hTY⟩ : ∃ TY, TY = TYf RK := ⟨_, rfl⟩
     rw [← hrl, ← hTY] at HO8 HLENR
     rw [← hrl] at hrll
     have HE : Hid (rl = e.recs 0 0 ∧ TY = TYf RK) := ⟨hrl, hTY⟩
     have hK100 : K ≤ 100 := by omega
     have HHM : Hid (∀ (r : Nat) (wx : World), Below w7.heap.size w7 wx → Calls Tryz.prog 40 #[.pointer (some ⟨b, 0, none⟩), .pointer (some ⟨yb7, 0, none⟩), .int .i64 r] wx fun v w' => ∃ p, v = .returned (.pointer p) ∧ Below wx.heap.size wx w' ∧ ((p = none ∧ nwR rl TY (r + 1) = nwR rl TY r) ∨ ∃ bi id l, p = some ⟨bi, 0, none⟩ ∧ (nwR rl TY r)[id]? = some l ∧ nwR rl TY (r + 1) = (nwR rl TY r).set id (l ++ [r]) ∧ bi < w1.heap.size ∧ w1.cell? ⟨bi, 5, none⟩ = some (.int .i64 id))) := by
      intro r wx hbx
      have hb1x : Below w1.heap.size w1 wx := HB7.out.trans (hbx.mono HB7.out.size)
      have hox : OfIn wx yb7 (TYf RK) := by
       obtain ⟨h1, go, oc, h2, h3, h4⟩ := HO7.out
       have := hbx.size
       exact ⟨by omega, go, oc, (hbx.cell (p := ⟨yb7, 3, none⟩) h1).trans h2, by omega, fun k T hk => (hbx.cell (p := ⟨go, k, none⟩) h3).trans (h4 k T hk)⟩
      refine (home_any w1 wx e (TYf RK) b yb7 r HSI.out.fit (by rw [← HM.out]; exact hcnt) HSI.out.tl HT1.out hb1x hox).mono ?_
      rintro v w' ⟨p, rfl, hbw, hp⟩
      refine ⟨p, rfl, hbw, ?_⟩
      rw [← hrl, ← hTY, ← HM.out, ← hrll] at hp
      have hstep : nwR rl TY (r + 1) = match hmId rl TY r with | none => nwR rl TY r | some id => (nwR rl TY r).set id ((nwR rl TY r).getD id [] ++ [r]) := rfl
      unfold hmId at hstep
      cases hh : hmF rl (hmSaid TY r rl) rl.length with
      | none =>
       rw [hh] at hp hstep
       exact .inl ⟨hp, hstep⟩
      | some i =>
       rw [hh] at hp hstep
       obtain ⟨bi, rr, rfl, hir, hrec⟩ : ∃ bi r, p = some ⟨bi, 0, none⟩ ∧ rl[i]? = some r ∧ isRec w1 bi r := hp
       simp only [Option.bind_some, hir, Option.map_some] at hstep
       obtain ⟨_, _, _, a5, _, hbil⟩ := rec_cells hrec
       have hidm : rr.id < m := by
        have hmem := List.mem_of_getElem? hir
        rw [hrl, recs_subs, List.mem_map] at hmem
        obtain ⟨x, hx, hxe⟩ := hmem
        have hsi := subs_ids e 0 0 x hx
        have hcx := cnt_pos x.1
        have hri : rr.id = x.2.1 := by rw [← hxe]; obtain ⟨t, i1, i2⟩ := x; cases t <;> rfl
        rw [HM.out]; omega
       refine .inr ⟨bi, rr.id, (nwR rl TY r).getD rr.id [], rfl, ?_, hstep, hbil, a5⟩
       rw [List.getD, List.getElem?_eq_getElem (by rw [HLENR.out]; exact hidm)]; rfl
     clear hrl hTY
     go_wp2
     go_loopw [16] (fun i wr => ∃ (r : Nat) (vs : List Value), r ≤ K ∧ i = .int .i64 r ∧ Below w7.heap.size w7 wr ∧ NwM w7.heap.size wr gn (nwR rl TY r) vs) (fun i _ => K - (intOf i).toNat)
     case atStart => exact ⟨0, _, Nat.zero_le _, rfl, HB8.out, HO8.out⟩
     case round =>
      obtain ⟨r, vs, hr, rfl, hbr, hnm⟩ := hrel
      have HBR : Hid _ := hbr
      have HNM : Hid _ := hnm
      clear hnm
      by_cases hrK : r < K
      ·have hhm := HHM.out r wr hbr
       clear hbr
       go_wp2_with fail
       refine hhm.mono ?_
       rintro _ w9 ⟨p, rfl, hb9, hp9⟩
       have HB9 : Hid (Below w7.heap.size w7 w9) := (show Below _ _ _ from HBR.out.trans (hb9.mono HBR.out.size))
       have HNM9 : Hid (NwM w7.heap.size w9 gn (nwR rl TY r) vs) := (show NwM _ _ _ _ _ from HNM.out.below hb9)
       clear hhm hb9
       rcases hp9 with ⟨rfl, hnx⟩ | ⟨bi, id, l, rfl, hl, hnx, hbi1, hid1⟩
       ·have HNX : Hid _ := hnx
        clear hnx
        go_wp2
        go_roundw
        case rel => exact ⟨r + 1, vs, by omega, by go_num, HB9.out, by rw [HNX.out]; exact HNM9.out⟩
        case measure => simp [intOf]; omega
       ·have HNX : Hid _ := hnx
        have hb19 : Below w1.heap.size w1 w9 := HB7.out.trans (HB9.out.mono HB7.out.size)
        have a5 := (hb19.cell (p := ⟨bi, 5, none⟩) hbi1).trans hid1
        have hbi9 : bi < w9.heap.size := by have := hb19.size; omega
        have hidm : id < m := by have := (List.getElem?_eq_some_iff.1 hl).1; rw [HLENR.out] at this; exact this
        obtain ⟨v, hv, hov, hvg⟩ := HNM9.out.at_ id l hl
        have hrow := HNM9.out.row
        have hcell : w9.cell? ⟨gn, id, none⟩ = some v := by rw [hrow.cellAt id (by rw [HLENR.out]; omega)]; exact hv
        have hgnl : gn < w9.heap.size := (hrow.lt gn rfl).2
        have hfr := own_free hrow id
        have hl100 : l.length ≤ 100 := by have := (nwR_sm rl TY r l (List.mem_of_getElem? hl)).1; omega
        have HL : Hid _ := hl
        have HV : Hid _ := hv
        have HOV : Hid (w9.ownsRow w7.heap.size 3 1 v l.length (natVs l)) := hov
        clear hnx hb19 hl hv hov hrow hid1
        go_wp2
        have HW : Hid (∀ o : Obj, (w9.drew.alloc o).ownsRow w7.heap.size 3 1 v l.length (natVs l)) := fun o => (show World.ownsRow w9.drew _ _ _ _ _ _ from HOV.out).alloc o
        have HVG : Hid _ := hvg
        have HNC : Hid (∀ (j : Nat) (u : Value), [Value.int .i64 (r : Nat)][j]? = some u → (w9.drew.alloc (.cells [Value.int .i64 (r : Nat)].toArray 3)).cell? (Addr.add ⟨w9.heap.size, 0, none⟩ j) = some u) := fun j u hj => by rw [← hj]; exact alloc_cell_at w9.drew _ _ _
        have HVL : Hid (∀ k, v.ownBlock = some k → w7.heap.size ≤ k) := fun k hk => (HOV.out.lt k hk).1
        have hbiv : some bi ≠ v.ownBlock := by
         intro h
         have h1 := HVL.out bi h.symm
         have h2 := HB7.out.size
         omega
        have hgnv : some gn ≠ v.ownBlock := fun h => HVG.out h.symm
        have h97 : w7.heap.size ≤ w9.heap.size := HB9.out.size
        have HBA : Hid (∀ o : Obj, Below w9.heap.size w9 (w9.drew.alloc o)) := fun o => belY_al (belY_d (Below.refl _ _)) o
        have HLT : Hid (∀ (o : Obj) (k : Nat), k < w9.heap.size → k < (w9.drew.alloc o).heap.size) := fun o k hk => Nat.lt_of_lt_of_le hk (HBA.out o).size
        have HX : Hid (∀ o : Obj, (w9.drew.alloc o).cell? ⟨bi, 5, none⟩ = some (.int .i64 id) ∧ (w9.drew.alloc o).cell? ⟨gn, id, none⟩ = some v ∧ (w9.drew.alloc o).frozen? ⟨gn, id, none⟩ = false) := fun o => ⟨((HBA.out o).cell (p := ⟨bi, 5, none⟩) hbi9).trans a5, ((HBA.out o).cell (p := ⟨gn, id, none⟩) hgnl).trans hcell, (World.frozen?_of_block ((HBA.out o).block gn hgnl)).trans hfr⟩
        have HEND : Hid (∀ (o : Obj) (g2 cap2 : Nat) (wX : World), wX.ownsRow w7.heap.size 3 1 (.slice (some ⟨g2, 0, none⟩) (l.length + 1) cap2) (l.length + 1) (natVs l ++ [.int .i64 (r : Nat)]) → (w9.drew.alloc o).grownBy wX v.ownBlock → (v.ownBlock = some g2 ∨ g2 = w9.heap.size + 1) → Below w7.heap.size w7 (wX.setCell ⟨gn, id, none⟩ (.slice (some ⟨g2, 0, none⟩) (l.length + 1) cap2)) ∧ NwM w7.heap.size (wX.setCell ⟨gn, id, none⟩ (.slice (some ⟨g2, 0, none⟩) (l.length + 1) cap2)) gn (nwR rl TY (r + 1)) (vs.set id (.slice (some ⟨g2, 0, none⟩) (l.length + 1) cap2))) := by
         intro o g2 cap2 wX ho hg hat
         have hbw : Below w7.heap.size w7 (w9.drew.alloc o) := HB9.out.trans ((HBA.out o).mono HB9.out.size)
         refine ⟨bel_set (hbw.grown hg hbw.size (fun k hk => HVL.out k hk)) hgn0, ?_⟩
         rw [HNX.out]
         refine NwM.add (HNM9.out.below (HBA.out o)) HL.out HV.out hg ho (hat.imp (fun h => h) (fun h => ?_))
         have e1 : (w9.drew.alloc o).heap.size = w9.drew.heap.size + 1 := by simp
         rw [h, e1]; exact Nat.le_refl _
        clear hvg
        go_region_law ((refine step_append_lies _ (by rfl) _ _ _ (by rfl) w7.heap.size 3 i0 _ 1 8 Tryz.undInts HI.out HZ0.out HZ1.out HZ2.out rfl (by decide) v l.length (natVs l) (by rfl) (HW.out _) ⟨w9.heap.size, 0, none⟩ 1 1 [.int .i64 (r : Nat)] (by rfl) (by rfl) HNC.out (by intro u hu; simp at hu; subst hu; rfl) (by decide) (by unfold maxLen; omega) (by omega) (by simp [World.drew]; omega) (w9.heap.size + 1) (by simp [World.drew]) ?_; intro g2 cap2 wX hown2 hgrow hat hlt; have x1 : wX.cell? ⟨bi, 5, none⟩ = some (.int .i64 id) := (hgrow.cell_far ⟨bi, 5, none⟩ (HLT.out _ bi hbi9) hbiv).trans (HX.out _).1; have x2 : wX.cell? ⟨gn, id, none⟩ = some v := (hgrow.cell_far ⟨gn, id, none⟩ (HLT.out _ gn hgnl) hgnv).trans (HX.out _).2.1; have x3 : wX.frozen? ⟨gn, id, none⟩ = false := (hgrow.frozen_far ⟨gn, id, none⟩ (HLT.out _ gn hgnl) hgnv).trans (HX.out _).2.2))
        all_goals
         have HFIN : Hid _ := HEND.out _ g2 cap2 wX hown2 hgrow hat
         clear hown2 hgrow hat hlt x1 x2 x3
         go_wp2
         go_roundw
         case rel => exact ⟨r + 1, _, by omega, by go_num, HFIN.out.1, HFIN.out.2⟩
         case measure => simp [intOf]; omega
      ·have hrK' : r = K := by omega
       subst hrK'
       have hb1r : Below w1.heap.size w1 wr := HB7.out.trans (hbr.mono HB7.out.size)
       have hTr : IsT wr (fun k => k < wr.heap.size) e 0 0 b := IsT.keep (fun k hk => Nat.lt_of_lt_of_le hk hb1r.size) (fun k hk => hb1r.block k hk) _ _ _ _ HT1.out
       have hRow : RowI wr (.slice (some ⟨gr, 0, none⟩) n n) RK := by
        have h7 := owns_blk HC7.out (fun k hk => hbr.block k (HC7.out.lt k hk).2)
        have hl2 := hlr
        rw [show n = RK.length from hl2.symm] at h7 ⊢
        obtain ⟨va, vc, e1, e2⟩ := row_cells h7
        refine ⟨va, vc, e1, fun j x hx => ?_⟩
        obtain ⟨hj, hx'⟩ := List.getElem?_eq_some_iff.1 hx
        obtain ⟨g, f1, f2, f3⟩ := e2 j hj
        exact ⟨g, f1, f2, by rw [← hx']; exact f3⟩
       have hNw := HNM.out.nw (by rw [HLENR.out]; exact hcnt) (fun l hl => by have := nwR_sm rl TY r l hl; exact ⟨by omega, fun x hx => by have := this.2 x hx; omega⟩)
       rw [HLENR.out] at hNw
       have HBW : Hid (Below w.heap.size w wr) := (show Below _ _ _ from HB1.out.trans (hb1r.mono HB1.out.size))
       have htx := TextC_any wr (HIT.out wr HBW.out) RK (nwR rl TY r) _ _ hRow HRK.out hNw e HNN.out 0 0 b _ (by rw [← HM.out]; exact hcnt) HTM.out HWF.out (by rw [HLENR.out, HM.out]; omega) (by rw [hlr, HN.out]; omega) (by rw [HE.out.1, HE.out.2]; exact HLN2.out) hTr wr (Below.refl _ _)
       unfold ptr at htx
       clear hbr hb1r hTr hRow hNw
       go_wp2_with fail
       refine htx.mono ?_
       rintro _ w10 ⟨rfl, hb10⟩
       have HB10 : Hid (Below w.heap.size w w10) := (show Below _ _ _ from HBW.out.trans (hb10.mono HBW.out.size))
       have HTX : Hid (e.rtx RK (nwR rl TY r) 0 0 = e.rtx (rkL c e.prs).1 (nwR (e.recs 0 0) (TYf (rkL c e.prs).1) (rkL c e.prs).2) 0 0) := (show _ = _ by rw [HE.out.1, HE.out.2, ← HRKE.out.1, ← HRKE.out.2])
       clear htx hb10
       generalize e.rtx RK (nwR rl TY r) 0 0 = tx at *
       go_wp2
       refine bodyPost_ret (v := .tuple #[.string (bs tx), .int .i64 0]) (by simp [results, Tryz.results17, go_sem]) rfl ⟨c, HPC.out, HPTD.out, by rw [HTX.out], HB10.out⟩
theorem join_min {q : Nat → Nat} {E : List Nat} (h : ∀ x, q (fst' E x) = q x) {r s : Nat} (hr : r < E.length) (hs : s < E.length) (e : q r = q s) : ∀ x, q (fst' (joinF E r s) x) = q x := fun x => by
 rw [fst_join E r s hr hs]
 unfold mrg
 have hrs : q (fst' E r) = q (fst' E s) := by rw [h, h]; exact e
 have hmm : q (min (fst' E r) (fst' E s)) = q (max (fst' E r) (fst' E s)) := by
  by_cases c : fst' E r ≤ fst' E s
  ·rw [Nat.min_eq_left c, Nat.max_eq_right c]; exact hrs
  ·have c' : fst' E s ≤ fst' E r := by omega
   rw [Nat.min_eq_right c', Nat.max_eq_left c']; exact hrs.symm
 split
 ·rename_i hx
  rw [hmm, ← hx]; exact h x
 ·exact h x
theorem match_min {q : Nat → Nat} : ∀ (a b : Ty) (E : List Nat), (∀ x, q (fst' E x) = q x) → BelT E.length a → BelT E.length b → mapT q a = mapT q b → ∀ x, q (fst' (matchT E a b) x) = q x
 | .n, _, _, h, _, _, _ => by simp only [matchT]; exact h
 | .p _ _ _, .n, _, h, _, _, _ => by simp only [matchT]; exact h
 | .p r a b, .p s c d, E, h, h1, h2, e => by
  simp only [matchT]
  split
  ·exact h
  ·obtain ⟨r1, r2, r3⟩ := h1.p
   obtain ⟨s1, s2, s3⟩ := h2.p
   simp only [mapT, Ty.p.injEq] at e
   refine match_min b d _ (match_min a c _ (join_min h r1 s1 e.1) ?_ ?_ e.2.1) ?_ ?_ e.2.2
   ·rw [joinF_len]; exact r2
   ·rw [joinF_len]; exact s2
   ·rw [matchT_len, joinF_len]; exact r3
   ·rw [matchT_len, joinF_len]; exact s3
theorem shE_min {q : Nat → Nat} : ∀ (ns : List NR) (T : List Ty) (E : List Nat), (∀ t ∈ T, BelT E.length t) → (∀ n ∈ ns, n.at_ < E.length) → OneT q T (ns.map atR) → (∀ x, q (fst' E x) = q x) → ∀ x, q (fst' (shE T E ns) x) = q x
 | [], _, _, _, _, _, h => h
 | n :: r, T, E, hT, hn, ho, h => by
  have hb : ∀ t ∈ T ++ [tyR T (atR n)], BelT E.length t := fun t ht => by
   rcases List.mem_append.1 ht with ht | ht
   ·exact hT t ht
   ·simp only [List.mem_singleton] at ht; subst ht; exact belT_tyR hT _ (by simpa [atR] using hn n (by simp))
  simp only [List.map_cons, OneT] at ho
  simp only [shE]
  by_cases hc : n.form = 7 ∨ n.form = 11
  ·rw [if_pos hc]
   have h1 := match_min _ _ E h (belT_known hb _) (belT_known hb _) (ho.1 hc)
   refine shE_min r _ _ ?_ ?_ ho.2 h1
   ·rw [matchT_len]; exact hb
   ·rw [matchT_len]; exact fun m hm => hn m (by simp [hm])
  ·rw [if_neg hc]
   exact shE_min r _ _ hb (fun m hm => hn m (by simp [hm])) ho.2 h
theorem one_of (c : Nat → Nat) : ∀ (ns : List NR) (T : List Ty), (∀ (i : Nat) n, ns[i]? = some n → BackN (T.length + i) n) → (∀ (i : Nat) n, ns[i]? = some n → n.form = 7 ∨ n.form = 11 → mapT c (knownT (tyRun T ns) n.p1) = mapT c (knownT (tyRun T ns) n.p2)) → OneT c T ns
 | [], _, _, _ => trivial
 | m :: r, T, hb, ho => by
  obtain ⟨X, h1, _⟩ := run_pre r (T ++ [tyR T m])
  have hbm : BackN T.length m := by simpa using hb 0 m (by simp)
  simp only [OneT]
  refine ⟨fun hf => ?_, one_of c r _ (fun k x hx => ?_) (fun k x hx => ?_)⟩
  ·have := ho 0 m (by simp) hf
   simp only [tyRun] at this
   rw [h1, List.append_assoc, knownT_pre hbm.2.1, knownT_pre hbm.2.2.1] at this
   rw [knownT_pre hbm.2.1, knownT_pre hbm.2.2.1]; exact this
  ·have := hb (k + 1) x (by simpa using hx)
   rw [List.length_append, List.length_singleton, show T.length + 1 + k = T.length + (k + 1) by omega]; exact this
  ·have := ho (k + 1) x (by simpa using hx)
   simp only [tyRun] at this; exact this
inductive Plx (R : Nat → Int → Prop) : PT → PT → Prop
 | num {p q : Nat} {s s' : List UInt8} (h : valueL s = valueL s') : Plx R (.num p s) (.num q s')
 | name {p q : Nat} {s : List UInt8} : Plx R (.name p s) (.name q s)
 | let_ {p q : Nat} {nm rg rg' : List UInt8} {a b a' b' : PT} (ha : Plx R a a') (hb : Plx R b b') : Plx R (.node p .let_ nm rg [a, b]) (.node q .let_ nm rg' [a', b'])
 | pair {p q : Nat} {nm nm' rg rg' : List UInt8} {a b a' b' : PT} (hr : R p (valueL rg')) (ha : Plx R a a') (hb : Plx R b b') : Plx R (.node p .pair nm rg [a, b]) (.node q .pair nm' rg' [a', b'])
 | fst {p q : Nat} {nm nm' rg rg' : List UInt8} {a a' : PT} (ha : Plx R a a') : Plx R (.node p .fst nm rg [a]) (.node q .fst nm' rg' [a'])
 | snd {p q : Nat} {nm nm' rg rg' : List UInt8} {a a' : PT} (ha : Plx R a a') : Plx R (.node p .snd nm rg [a]) (.node q .snd nm' rg' [a'])
 | if_ {p q : Nat} {nm nm' rg rg' : List UInt8} {a b c a' b' c' : PT} (ha : Plx R a a') (hb : Plx R b b') (hc : Plx R c c') : Plx R (.node p .if_ nm rg [a, b, c]) (.node q .if_ nm' rg' [a', b', c'])
 | two {p q : Nat} {k : Kw} {nm nm' rg rg' : List UInt8} {a b a' b' : PT} (hk : k = .add ∨ k = .sub ∨ k = .less) (ha : Plx R a a') (hb : Plx R b b') : Plx R (.node p k nm rg [a, b]) (.node q k nm' rg' [a', b'])
 | loop {p q : Nat} {nm rg rg' : List UInt8} {a b c a' b' c' : PT} (ha : Plx R a a') (hb : Plx R b b') (hc : Plx R c c') : Plx R (.node p .loop nm rg [a, b, c]) (.node q .loop nm rg' [a', b', c'])
 | new {q : Nat} {nm rg : List UInt8} {e a' : PT} (ha : Plx R e a') : Plx R e (.node q .new nm rg [a'])
mutual
def PT.pc : PT → Nat
 | .num _ _ => 1
 | .name _ _ => 1
 | .node _ k _ _ kids => (if k = .new then 0 else 1) + pcL kids
def pcL : List PT → Nat
 | [] => 0
 | t :: r => t.pc + pcL r
end
mutual
def PT.nwr : PT → Nat → List (Int × Nat × Nat)
 | .num _ _, _ => []
 | .name _ _, _ => []
 | .node _ k _ rg kids, b => (if k = .new then [(valueL rg, b, pcL kids)] else []) ++ nwrL kids b
def nwrL : List PT → Nat → List (Int × Nat × Nat)
 | [], _ => []
 | t :: r, b => t.nwr b ++ nwrL r (b + t.pc)
end
theorem get_app {α : Type} {a c : List α} {i : Nat} {x : α} (h : (a ++ c)[i]? = some x) : (i < a.length ∧ a[i]? = some x) ∨ (a.length ≤ i ∧ c[i - a.length]? = some x) := by
 by_cases e : i < a.length
 ·rw [List.getElem?_append_left e] at h; exact Or.inl ⟨e, h⟩
 ·rw [List.getElem?_append_right (by omega)] at h; exact Or.inr ⟨by omega, h⟩
mutual
def PT.rngs : PT → Nat → List (Nat × Nat)
 | .num _ _, b => [(b, 1)]
 | .name _ _, b => [(b, 1)]
 | .node _ _ _ _ kids, b => (b, 1 + cntL kids) :: rngsL kids b
def rngsL : List PT → Nat → List (Nat × Nat)
 | [], _ => []
 | t :: r, b => t.rngs b ++ rngsL r (b + t.cnt)
end
theorem rngs_self (t : PT) (b : Nat) : (b, t.cnt) ∈ t.rngs b := by cases t <;> simp [PT.rngs, PT.cnt]
mutual
theorem rngs_in : ∀ (t : PT) (ms : List NR) (lo hi b : Nat), PosN t ms lo hi → ∀ x y, (x, y) ∈ t.rngs b → b ≤ x ∧ x + y ≤ b + t.cnt ∧ ∀ i, x ≤ i → i < x + y → ∃ m n, ms[i - b]? = some m ∧ ms[x + y - 1 - b]? = some n ∧ n.at_ ≤ m.at_ ∧ m.beh ≤ n.beh
 | .num p _, ms, lo, hi, b, h, x, y, hm => by
  simp only [PT.rngs, List.mem_singleton, Prod.mk.injEq] at hm
  obtain ⟨rfl, rfl⟩ := hm
  simp only [PosN] at h
  obtain ⟨n, rfl, _⟩ := h
  refine ⟨Nat.le_refl _, Nat.le_refl _, fun i h1 h2 => ⟨n, n, ?_, ?_, Nat.le_refl _, Nat.le_refl _⟩⟩
  ·rw [show i - x = 0 by omega]; rfl
  ·rw [show x + 1 - 1 - x = 0 by omega]; rfl
 | .name p _, ms, lo, hi, b, h, x, y, hm => by
  simp only [PT.rngs, List.mem_singleton, Prod.mk.injEq] at hm
  obtain ⟨rfl, rfl⟩ := hm
  simp only [PosN] at h
  obtain ⟨n, rfl, _⟩ := h
  refine ⟨Nat.le_refl _, Nat.le_refl _, fun i h1 h2 => ⟨n, n, ?_, ?_, Nat.le_refl _, Nat.le_refl _⟩⟩
  ·rw [show i - x = 0 by omega]; rfl
  ·rw [show x + 1 - 1 - x = 0 by omega]; rfl
 | .node p _ _ _ kids, ms, lo, hi, b, h, x, y, hm => by
  simp only [PosN] at h
  obtain ⟨ks, n, rfl, h1, h2, h3, h4, h5⟩ := h
  have hkl := PosNs.len h3
  simp only [PT.rngs, List.mem_cons, Prod.mk.injEq] at hm
  rcases hm with ⟨rfl, rfl⟩ | hm
  ·refine ⟨Nat.le_refl _, Nat.le_refl _, fun i g1 g2 => ?_⟩
   have hr : (ks ++ [n])[x + (1 + cntL kids) - 1 - x]? = some n := by
    rw [show x + (1 + cntL kids) - 1 - x = ks.length by omega, List.getElem?_append_right (Nat.le_refl _), Nat.sub_self]; rfl
   by_cases hi2 : i - x < ks.length
   ·have hl : (ks ++ [n])[i - x]? = some ks[i - x] := by rw [List.getElem?_append_left hi2, List.getElem?_eq_getElem hi2]
    have := PosNs.in_ h3 _ (List.getElem_mem hi2)
    exact ⟨_, n, hl, hr, by omega, by omega⟩
   ·refine ⟨n, n, ?_, hr, Nat.le_refl _, Nat.le_refl _⟩
    rw [show i - x = ks.length by omega, List.getElem?_append_right (Nat.le_refl _), Nat.sub_self]; rfl
  ·obtain ⟨g1, g2, g3⟩ := rngsL_in kids ks _ _ b h3 x y hm
   refine ⟨g1, by simp only [PT.cnt]; omega, fun i k1 k2 => ?_⟩
   obtain ⟨m, n', e1, e2, e3⟩ := g3 i k1 k2
   exact ⟨m, n', by rw [List.getElem?_append_left (List.getElem?_eq_some_iff.1 e1).1]; exact e1, by rw [List.getElem?_append_left (List.getElem?_eq_some_iff.1 e2).1]; exact e2, e3⟩
theorem rngsL_in : ∀ (ts : List PT) (ms : List NR) (lo hi b : Nat), PosNs ts ms lo hi → ∀ x y, (x, y) ∈ rngsL ts b → b ≤ x ∧ x + y ≤ b + cntL ts ∧ ∀ i, x ≤ i → i < x + y → ∃ m n, ms[i - b]? = some m ∧ ms[x + y - 1 - b]? = some n ∧ n.at_ ≤ m.at_ ∧ m.beh ≤ n.beh
 | [], _, _, _, _, _, x, y, hm => by simp [rngsL] at hm
 | t :: r, ms, lo, hi, b, h, x, y, hm => by
  simp only [PosNs] at h
  obtain ⟨a, c, mid, rfl, h1, h2⟩ := h
  have hal := PosN.len h1
  simp only [rngsL, List.mem_append] at hm
  rcases hm with hm | hm
  ·obtain ⟨g1, g2, g3⟩ := rngs_in t a _ _ b h1 x y hm
   refine ⟨g1, by simp only [cntL]; omega, fun i k1 k2 => ?_⟩
   obtain ⟨m, n', e1, e2, e3⟩ := g3 i k1 k2
   exact ⟨m, n', by rw [List.getElem?_append_left (List.getElem?_eq_some_iff.1 e1).1]; exact e1, by rw [List.getElem?_append_left (List.getElem?_eq_some_iff.1 e2).1]; exact e2, e3⟩
  ·obtain ⟨g1, g2, g3⟩ := rngsL_in r c _ _ (b + t.cnt) h2 x y hm
   refine ⟨by omega, by simp only [cntL]; omega, fun i k1 k2 => ?_⟩
   obtain ⟨m, n', e1, e2, e3⟩ := g3 i k1 k2
   refine ⟨m, n', ?_, ?_, e3⟩
   ·rw [List.getElem?_append_right (by omega), show i - b - a.length = i - (b + t.cnt) by omega]; exact e1
   ·rw [List.getElem?_append_right (by omega), show x + y - 1 - b - a.length = x + y - 1 - (b + t.cnt) by omega]; exact e2
end
theorem posNs_le : ∀ {ts : List PT} {ms : List NR} {lo hi : Nat}, PosNs ts ms lo hi → lo ≤ hi
 | [], ms, lo, hi, h => by simp only [PosNs] at h; exact h.2
 | t :: r, ms, lo, hi, h => by
  simp only [PosNs] at h
  obtain ⟨a, c, mid, rfl, h1, h2⟩ := h
  obtain ⟨n0, hn0, _⟩ := posN_last h1
  have := PosN.in_ h1 n0 (List.mem_of_getElem? hn0)
  have := posNs_le h2
  omega
mutual
theorem opn_rise (ns : List NR) : ∀ (t : PT) (ms : List NR) (lo hi b : Nat), PosN t ms lo hi → Emb ns ms b → ((opNs ns (opn t b)).map (·.at_)).Pairwise (· < ·) ∧ ∀ n ∈ opNs ns (opn t b), lo ≤ n.at_ ∧ n.at_ < hi
 | .num p _, ms, lo, hi, b, h, he => by
  simp only [PosN] at h
  obtain ⟨n, rfl, h1, h2, h3, h4⟩ := h
  have := he 0 n rfl
  rw [Nat.add_zero] at this
  simp [opn, opNs, this]; omega
 | .name p _, ms, lo, hi, b, h, he => by
  simp only [PosN] at h
  obtain ⟨n, rfl, h1, h2, h3, h4⟩ := h
  have := he 0 n rfl
  rw [Nat.add_zero] at this
  simp [opn, opNs, this]; omega
 | .node p k nm rg kids, ms, lo, hi, b, h, he => by
  simp only [PosN] at h
  obtain ⟨ks, n, rfl, h1, h2, h3, h4, h5⟩ := h
  have hkl := PosNs.len h3
  have hn : ns[b + cntL kids]? = some n := by
   have := he ks.length n (by rw [List.getElem?_append_right (Nat.le_refl _), Nat.sub_self]; rfl)
   rwa [hkl] at this
  obtain ⟨g1, g2⟩ := opnL_rise ns kids ks _ _ b h3 he.left
  have e : opNs ns (opn (.node p k nm rg kids) b) = n :: opNs ns (opnL kids b) := by
   simp only [opn, opNs, List.map_cons, Int.toNat_natCast, hn, Option.getD_some]
  rw [e]
  refine ⟨?_, fun m hm => ?_⟩
  ·simp only [List.map_cons, List.pairwise_cons]
   refine ⟨fun x hx => ?_, g1⟩
   obtain ⟨m, hm, rfl⟩ := List.mem_map.1 hx
   have := g2 m hm
   omega
  ·rcases List.mem_cons.1 hm with hm | hm
   ·subst hm; omega
   ·have := g2 m hm; omega
theorem opnL_rise (ns : List NR) : ∀ (ts : List PT) (ms : List NR) (lo hi b : Nat), PosNs ts ms lo hi → Emb ns ms b → ((opNs ns (opnL ts b)).map (·.at_)).Pairwise (· < ·) ∧ ∀ n ∈ opNs ns (opnL ts b), lo ≤ n.at_ ∧ n.at_ < hi
 | [], _, _, _, _, _, _ => by simp [opnL, opNs]
 | t :: r, ms, lo, hi, b, h, he => by
  simp only [PosNs] at h
  obtain ⟨a, c, mid, rfl, h1, h2⟩ := h
  have hal := PosN.len h1
  obtain ⟨g1, g2⟩ := opn_rise ns t a _ _ b h1 he.left
  have her := he.right
  rw [hal] at her
  obtain ⟨k1, k2⟩ := opnL_rise ns r c _ _ (b + t.cnt) h2 her
  have e : opNs ns (opnL (t :: r) b) = opNs ns (opn t b) ++ opNs ns (opnL r (b + t.cnt)) := by simp only [opnL, opNs, List.map_append]
  have hlo : lo ≤ mid := by
   obtain ⟨n0, hn0, _⟩ := posN_last h1
   have := PosN.in_ h1 n0 (List.mem_of_getElem? hn0)
   omega
  rw [e]
  refine ⟨?_, fun m hm => ?_⟩
  ·rw [List.map_append, List.pairwise_append]
   refine ⟨g1, k1, fun x hx y hy => ?_⟩
   obtain ⟨m, hm, rfl⟩ := List.mem_map.1 hx
   obtain ⟨m', hm', rfl⟩ := List.mem_map.1 hy
   have := g2 m hm
   have := k2 m' hm'
   omega
  ·rcases List.mem_append.1 hm with hm | hm
   ·have := g2 m hm
    have hmh : mid ≤ hi := posNs_le h2
    omega
   ·have := k2 m hm; omega
end
end Go.Proofs.YtpicaknklgccoaaGreatDoor
