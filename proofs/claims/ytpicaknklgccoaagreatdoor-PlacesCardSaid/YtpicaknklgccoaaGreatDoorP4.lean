import Derived.Test.YtpicaknklgccoaaGreatDoorP3
import Derived.Deep.RegionHeld3
namespace Go.Proofs.YtpicaknklgccoaaGreatDoor
open Go.RowKit
open Go.Lib (decDigits)
theorem halves_t (t : Ty) (w : World) (hs : t.txt.length ≤ 100000) : Calls Tryz.prog 171 #[.string (bs t.txt)] w fun e w' => ∃ x y c, e = .returned (.tuple #[.string x, .string y, .bool c]) ∧ ∃ n, w' = w.drewN n := by
 cases t with
 | n => exact (halves_n w).mono (by rintro e w' ⟨rfl, rfl⟩; exact ⟨_, _, _, rfl, 0, rfl⟩)
 | p r a b => exact (halves_p r a b w hs).mono (by rintro e w' ⟨rfl, n, rfl⟩; exact ⟨_, _, _, rfl, n, rfl⟩)
set_option maxRecDepth 100000 in
set_option maxHeartbeats 1000000 in
theorem made_new (w : World) (yb xb : Nat) (cv nv tv ov kv : Value) (p : Nat) (nm : List UInt8) (px : Nat) (n : Int) (id last site : Nat)
  (hy : w.heap[yb]? = some (.cells (tyCells cv nv tv ov 0 p) 115 (0, 0)))
  (hx : w.heap[xb]? = some (.cells (exCells Kw.new.bytes px nm n kv id last site) 82 (0, 0)))
  (a : Ty) (hs : a.txt.length ≤ 100000) :
  Calls Tryz.prog 144 #[ptr yb, ptr xb, .agg #[.string (bs a.txt), .string (bs []), .string (bs [])]] w fun v w' => v = .returned (.string (bs a.txt)) ∧ w.grownBy w' (some yb) ∧ w'.heap[yb]? = some (.cells (tyCells cv nv tv ov 0 p) 115 (0, 0)) := by
 have x0 : w.cell? ⟨xb, 0, none⟩ = some (.string (bs Kw.new.bytes)) := by rw [blk_cell hx]; rfl
 have hxb := blk_lt hx
 have hyb := blk_lt hy
 have HY : Hid _ := hy
 have HX : Hid _ := hx
 have q0 : ((bs Kw.new.bytes).toList == [110, 101, 119]) = true := by rw [bs_beq0]; decide
 have hh := fun w => halves_t a w hs
 clear hy hx
 show Calls _ _ #[Value.pointer (some ⟨yb, 0, none⟩), Value.pointer (some ⟨xb, 0, none⟩), _] w _
 go_enter Tryz.func144, Tryz.ntmps144
 go_wp2_with (go_at_call 171; refine (hh _).mono ?_; rintro e w1 ⟨_, _, _, rfl, n1, rfl⟩)
 go_ret
 exact ⟨rfl, made_ok HY.out⟩
set_option maxRecDepth 100000 in
set_option maxHeartbeats 1000000 in
theorem made_pair (w : World) (gc cl cc yb xb : Nat) (nv tv ov kv : Value) (p : Nat) (nm : List UInt8) (px : Nat) (n : Int) (id last site : Nat)
  (hy : w.heap[yb]? = some (.cells (tyCells (.slice (some ⟨gc, 0, none⟩) cl cc) nv tv ov 0 p) 115 (0, 0)))
  (hx : w.heap[xb]? = some (.cells (exCells Kw.pair.bytes px nm n kv id last site) 82 (0, 0)))
  (r : Nat) (a b : Ty) (hr : r < 1000) (hit : ∀ w', Below w.heap.size w w' → Calls Tryz.prog 49 #[.int .i64 r] w' fun e w2 => e = .returned (.string (bs (decDigits r))) ∧ Below w'.heap.size w' w2) (hs : a.txt.length + b.txt.length ≤ 90000) (hsl : site < cl) (_hcl : cl ≤ 9000) (hcell : w.cell? ⟨gc, site, none⟩ = some (.int .i64 r)) :
  Calls Tryz.prog 144 #[ptr yb, ptr xb, .agg #[.string (bs a.txt), .string (bs b.txt), .string (bs [])]] w fun v w' => v = .returned (.string (bs (Ty.p r a b).txt)) ∧ w.grownBy w' (some yb) ∧ w'.heap[yb]? = some (.cells (tyCells (.slice (some ⟨gc, 0, none⟩) cl cc) nv tv ov 0 p) 115 (0, 0)) := by
 have x0 : w.cell? ⟨xb, 0, none⟩ = some (.string (bs Kw.pair.bytes)) := by rw [blk_cell hx]; rfl
 have hxb := blk_lt hx
 have hyb := blk_lt hy
 have HY : Hid _ := hy
 have HX : Hid _ := hx
 have q0 : ((bs Kw.pair.bytes).toList == [110, 101, 119]) = false := by rw [bs_beq0]; decide
 have q1 : ((bs Kw.pair.bytes).toList == [112, 97, 105, 114]) = true := by rw [bs_beq0]; decide
 have hh := fun w => halves_t a w (by omega)
 have hpo := fun w' hb => pairOf_any r a b w' hr (hit w' hb) hs
 have x7 : w.cell? ⟨xb, 7, none⟩ = some (.int .i64 site) := by rw [blk_cell hx]; rfl
 have y0 : w.cell? ⟨yb, 0, none⟩ = some (.slice (some ⟨gc, 0, none⟩) cl cc) := by rw [blk_cell hy]; rfl
 have hgc : gc < w.heap.size := World.block_lt_of_cell? _ _ hcell
 clear hy hx
 show Calls _ _ #[Value.pointer (some ⟨yb, 0, none⟩), Value.pointer (some ⟨xb, 0, none⟩), _] w _
 go_enter Tryz.func144, Tryz.ntmps144
 go_wp2_with (go_at_call 171; refine (hh _).mono ?_; rintro e w1 ⟨_, _, _, rfl, n1, hw1⟩; have hcw : ∀ ad, w1.cell? ad = (w.alloc (Obj.cells #[Value.string (bs a.txt), Value.string (bs b.txt), Value.string (bs [])] 139)).cell? ad := (fun ad => by rw [hw1]; rfl); have HW1 : Hid (w1 = (w.alloc (Obj.cells #[Value.string (bs a.txt), Value.string (bs b.txt), Value.string (bs [])] 139)).drewN n1) := hw1; clear hw1)
 have hb1 : Below w.heap.size w w1 := by rw [HW1.out]; exact below_box w _ n1
 have hw1s : w.heap.size < w1.heap.size := by rw [HW1.out]; simp [World.drewN]
 have HS : Hid (∀ w', Below w1.heap.size w1 w' → w'.cell? ⟨yb, 0, none⟩ = some (.slice (some ⟨gc, 0, none⟩) cl cc) ∧ w'.cell? ⟨xb, 7, none⟩ = some (.int .i64 site) ∧ w'.cell? ⟨gc, site, none⟩ = some (.int .i64 r) ∧ w'.cell? ⟨w.heap.size, 0, none⟩ = some (.string (bs a.txt)) ∧ w'.cell? ⟨w.heap.size, 1, none⟩ = some (.string (bs b.txt))) := by
  intro w' hb
  refine ⟨?_, ?_, ?_, ?_, ?_⟩
  ·rw [hb.cell (p := ⟨yb, 0, none⟩) (by show yb < _; omega), hb1.cell (p := ⟨yb, 0, none⟩) hyb]; exact y0
  ·rw [hb.cell (p := ⟨xb, 7, none⟩) (by show xb < _; omega), hb1.cell (p := ⟨xb, 7, none⟩) hxb]; exact x7
  ·rw [hb.cell (p := ⟨gc, site, none⟩) (by show gc < _; omega), hb1.cell (p := ⟨gc, site, none⟩) hgc]; exact hcell
  ·rw [hb.cell (p := ⟨w.heap.size, 0, none⟩) (by show w.heap.size < _; omega), hcw, blk_cell (blk_new _ _)]; rfl
  ·rw [hb.cell (p := ⟨w.heap.size, 1, none⟩) (by show w.heap.size < _; omega), hcw, blk_cell (blk_new _ _)]; rfl
 have HB1 : Hid _ := hb1
 have HPO : Hid _ := hpo
 clear hb1 HW1 hpo hcw x7 y0 hcell x0
 go_region_held3 (fun w' => w'.cell? ⟨yb, 0, none⟩ = some (.slice (some ⟨gc, 0, none⟩) cl cc) ∧ w'.cell? ⟨xb, 7, none⟩ = some (.int .i64 site) ∧ w'.cell? ⟨gc, site, none⟩ = some (.int .i64 r) ∧ w'.cell? ⟨w.heap.size, 0, none⟩ = some (.string (bs a.txt)) ∧ w'.cell? ⟨w.heap.size, 1, none⟩ = some (.string (bs b.txt))) (first | exact HS.out _ ⟨rfl, rfl, rfl, Nat.le_refl _, fun _ _ => rfl⟩ | exact HS.out _ ⟨hb3.os, hb3.tape, hb3.output, hb3.size, fun k hk => hb3.block k hk⟩) (first | (go_at_call 172; refine (HPO.out _ (HB1.out.trans ?_)).mono ?_; exact ⟨rfl, rfl, rfl, Nat.le_refl _, fun _ _ => rfl⟩; rintro e w3 ⟨rfl, hb3⟩))
 all_goals
  have hB : Below w.heap.size w w3 := HB1.out.trans ((⟨hb3.os, hb3.tape, hb3.output, hb3.size, fun k hk => hb3.block k hk⟩ : Below w1.heap.size w1 w3).mono HB1.out.size)
  go_wp2
  go_ret
  exact ⟨rfl, grew_of hB _, by rw [hB.block yb hyb]; exact HY.out⟩
set_option maxRecDepth 100000 in
set_option maxHeartbeats 1000000 in
theorem made_if__ok (w : World) (yb xb : Nat) (cv nv tv ov kv : Value) (p : Nat) (nm : List UInt8) (px : Nat) (n : Int) (id last site : Nat)
  (hy : w.heap[yb]? = some (.cells (tyCells cv nv tv ov 0 p) 115 (0, 0)))
  (hx : w.heap[xb]? = some (.cells (exCells Kw.if_.bytes px nm n kv id last site) 82 (0, 0)))
  (b c : Ty) (hb : b.txt.length ≤ 100000) (hc : c.txt.length ≤ 100000) (heq : b.bare = c.bare) :
  Calls Tryz.prog 144 #[ptr yb, ptr xb, .agg #[.string (bs Ty.n.txt), .string (bs b.txt), .string (bs c.txt)]] w fun v w' => v = .returned (.string (bs b.txt)) ∧ w.grownBy w' (some yb) ∧ w'.heap[yb]? = some (.cells (tyCells cv nv tv ov 0 p) 115 (0, 0)) := by
 have x0 : w.cell? ⟨xb, 0, none⟩ = some (.string (bs Kw.if_.bytes)) := by rw [blk_cell hx]; rfl
 have hxb := blk_lt hx
 have hyb := blk_lt hy
 have HY : Hid _ := hy
 have HX : Hid _ := hx
 have q0 : ((bs Kw.if_.bytes).toList == [110, 101, 119]) = false := by rw [bs_beq0]; decide
 have q1 : ((bs Kw.if_.bytes).toList == [112, 97, 105, 114]) = false := by rw [bs_beq0]; decide
 have q2 : ((bs Kw.if_.bytes).toList == [102, 115, 116]) = false := by rw [bs_beq0]; decide
 have q3 : ((bs Kw.if_.bytes).toList == [115, 110, 100]) = false := by rw [bs_beq0]; decide
 have q4 : ((bs Kw.if_.bytes).toList == [105, 102]) = true := by rw [bs_beq0]; decide
 have hh := fun w => halves_n w
 have hpb := fun w => plain_any b w hb
 have hpc := fun w => plain_any c w hc
 have k0 : ((bs Ty.n.txt).toList == [110]) = true := by rw [bs_beq0]; decide
 have ke : ((bs b.plain).toList == (bs c.plain).toList) = true := by rw [(plain_inj b c).2 heq]; simp
 clear hy hx heq
 show Calls _ _ #[Value.pointer (some ⟨yb, 0, none⟩), Value.pointer (some ⟨xb, 0, none⟩), _] w _
 go_enter Tryz.func144, Tryz.ntmps144
 go_wp2_with (go_at_call 171; refine (hh _).mono ?_; rintro e w1 ⟨rfl, rfl⟩)
 go_quiet (first | (go_at_call_of 173 (Value.string (bs b.txt)); exact Calls.quiet_of (hpb _)) | (go_at_call_of 173 (Value.string (bs c.txt)); exact Calls.quiet_of (hpc _)))
 go_wp2
 go_ret
 exact ⟨rfl, made_ok HY.out⟩
set_option maxRecDepth 100000 in
set_option maxHeartbeats 1000000 in
theorem made_if__no (w : World) (yb xb : Nat) (cv nv tv ov kv : Value) (p : Nat) (nm : List UInt8) (px : Nat) (n : Int) (id last site : Nat) (hne : xb ≠ yb)
  (hy : w.heap[yb]? = some (.cells (tyCells cv nv tv ov 0 p) 115 (0, 0)))
  (hx : w.heap[xb]? = some (.cells (exCells Kw.if_.bytes px nm n kv id last site) 82 (0, 0)))
  (b c : Ty) (hb : b.txt.length ≤ 100000) (hc : c.txt.length ≤ 100000) (heq : ¬ b.bare = c.bare) :
  Calls Tryz.prog 144 #[ptr yb, ptr xb, .agg #[.string (bs Ty.n.txt), .string (bs b.txt), .string (bs c.txt)]] w fun v w' => v = .returned (.string (bs [110])) ∧ w.grownBy w' (some yb) ∧ w'.heap[yb]? = some (.cells (tyCells cv nv tv ov 5 px) 115 (0, 0)) := by
 have x0 : w.cell? ⟨xb, 0, none⟩ = some (.string (bs Kw.if_.bytes)) := by rw [blk_cell hx]; rfl
 have hxb := blk_lt hx
 have hyb := blk_lt hy
 have HY : Hid _ := hy
 have HX : Hid _ := hx
 have q0 : ((bs Kw.if_.bytes).toList == [110, 101, 119]) = false := by rw [bs_beq0]; decide
 have q1 : ((bs Kw.if_.bytes).toList == [112, 97, 105, 114]) = false := by rw [bs_beq0]; decide
 have q2 : ((bs Kw.if_.bytes).toList == [102, 115, 116]) = false := by rw [bs_beq0]; decide
 have q3 : ((bs Kw.if_.bytes).toList == [115, 110, 100]) = false := by rw [bs_beq0]; decide
 have q4 : ((bs Kw.if_.bytes).toList == [105, 102]) = true := by rw [bs_beq0]; decide
 have hh := fun w => halves_n w
 have hpb := fun w => plain_any b w hb
 have hpc := fun w => plain_any c w hc
 have k0 : ((bs Ty.n.txt).toList == [110]) = true := by rw [bs_beq0]; decide
 have ke : ((bs b.plain).toList == (bs c.plain).toList) = false := by
  rw [Lib.toList_data, Lib.toList_data, bs_toList, bs_toList, beq_eq_false_iff_ne]; exact fun h => heq ((plain_inj b c).1 h)
 have her := fun (o : Obj) (m : Nat) => err_any ((w.alloc o).drewN m) yb xb cv nv tv ov kv 0 p 5 _ nm px n id last site hne (blk_alloc o hy) (blk_alloc o hx)
 unfold ptr at her
 clear hy hx heq
 show Calls _ _ #[Value.pointer (some ⟨yb, 0, none⟩), Value.pointer (some ⟨xb, 0, none⟩), _] w _
 go_enter Tryz.func144, Tryz.ntmps144
 go_wp2_with (go_at_call 171; refine (hh _).mono ?_; rintro e w1 ⟨rfl, rfl⟩)
 go_quiet (first | (go_at_call_of 173 (Value.string (bs b.txt)); exact Calls.quiet_of (hpb _)) | (go_at_call_of 173 (Value.string (bs c.txt)); exact Calls.quiet_of (hpc _)))
 go_wp2_with (go_at_call 115; refine (her _ _).mono ?_; rintro e w2 ⟨rfl, hg1, hy1⟩)
 go_ret
 exact ⟨rfl, gr_trans (grew_of (below_box _ _ _) _) hg1, hy1⟩
set_option maxRecDepth 100000 in
set_option maxHeartbeats 1000000 in
theorem made_if__p (w : World) (yb xb : Nat) (cv nv tv ov kv : Value) (p : Nat) (nm : List UInt8) (px : Nat) (n : Int) (id last site : Nat) (hne : xb ≠ yb)
  (hy : w.heap[yb]? = some (.cells (tyCells cv nv tv ov 0 p) 115 (0, 0)))
  (hx : w.heap[xb]? = some (.cells (exCells Kw.if_.bytes px nm n kv id last site) 82 (0, 0)))
  (r : Nat) (a a' : Ty) (hs : (Ty.p r a a').txt.length ≤ 100000) (b c : ByteArray) :
  Calls Tryz.prog 144 #[ptr yb, ptr xb, .agg #[.string (bs (Ty.p r a a').txt), .string b, .string c]] w fun v w' => v = .returned (.string (bs [110])) ∧ w.grownBy w' (some yb) ∧ w'.heap[yb]? = some (.cells (tyCells cv nv tv ov 5 px) 115 (0, 0)) := by
 have x0 : w.cell? ⟨xb, 0, none⟩ = some (.string (bs Kw.if_.bytes)) := by rw [blk_cell hx]; rfl
 have hxb := blk_lt hx
 have hyb := blk_lt hy
 have HY : Hid _ := hy
 have HX : Hid _ := hx
 have q0 : ((bs Kw.if_.bytes).toList == [110, 101, 119]) = false := by rw [bs_beq0]; decide
 have q1 : ((bs Kw.if_.bytes).toList == [112, 97, 105, 114]) = false := by rw [bs_beq0]; decide
 have q2 : ((bs Kw.if_.bytes).toList == [102, 115, 116]) = false := by rw [bs_beq0]; decide
 have q3 : ((bs Kw.if_.bytes).toList == [115, 110, 100]) = false := by rw [bs_beq0]; decide
 have q4 : ((bs Kw.if_.bytes).toList == [105, 102]) = true := by rw [bs_beq0]; decide
 have hh := fun w => halves_p r a a' w hs
 have k0 : ((bs (Ty.p r a a').txt).toList == [110]) = false := by rw [bs_beq0]; simp [Ty.txt]
 have her := fun (o : Obj) (m : Nat) => err_any ((w.alloc o).drewN m) yb xb cv nv tv ov kv 0 p 5 _ nm px n id last site hne (blk_alloc o hy) (blk_alloc o hx)
 unfold ptr at her
 clear hy hx
 show Calls _ _ #[Value.pointer (some ⟨yb, 0, none⟩), Value.pointer (some ⟨xb, 0, none⟩), _] w _
 go_enter Tryz.func144, Tryz.ntmps144
 go_wp2_with (go_at_call 171; refine (hh _).mono ?_; rintro e w1 ⟨rfl, n1, rfl⟩)
 go_quiet (fail)
 go_wp2_with (go_at_call 115; refine (her _ _).mono ?_; rintro e w2 ⟨rfl, hg1, hy1⟩)
 go_ret
 exact ⟨rfl, gr_trans (grew_of (below_box _ _ _) _) hg1, hy1⟩
set_option maxRecDepth 100000 in
set_option maxHeartbeats 1000000 in
theorem made_loop_ok (w : World) (yb xb : Nat) (cv nv tv ov kv : Value) (p : Nat) (nm : List UInt8) (px : Nat) (n : Int) (id last site : Nat)
  (hy : w.heap[yb]? = some (.cells (tyCells cv nv tv ov 0 p) 115 (0, 0)))
  (hx : w.heap[xb]? = some (.cells (exCells Kw.loop.bytes px nm n kv id last site) 82 (0, 0)))
  (b c : Ty) (hb : b.txt.length ≤ 100000) (hc : c.txt.length ≤ 100000) (heq : b.bare = c.bare) :
  Calls Tryz.prog 144 #[ptr yb, ptr xb, .agg #[.string (bs Ty.n.txt), .string (bs b.txt), .string (bs c.txt)]] w fun v w' => v = .returned (.string (bs b.txt)) ∧ w.grownBy w' (some yb) ∧ w'.heap[yb]? = some (.cells (tyCells cv nv tv ov 0 p) 115 (0, 0)) := by
 have x0 : w.cell? ⟨xb, 0, none⟩ = some (.string (bs Kw.loop.bytes)) := by rw [blk_cell hx]; rfl
 have hxb := blk_lt hx
 have hyb := blk_lt hy
 have HY : Hid _ := hy
 have HX : Hid _ := hx
 have q0 : ((bs Kw.loop.bytes).toList == [110, 101, 119]) = false := by rw [bs_beq0]; decide
 have q1 : ((bs Kw.loop.bytes).toList == [112, 97, 105, 114]) = false := by rw [bs_beq0]; decide
 have q2 : ((bs Kw.loop.bytes).toList == [102, 115, 116]) = false := by rw [bs_beq0]; decide
 have q3 : ((bs Kw.loop.bytes).toList == [115, 110, 100]) = false := by rw [bs_beq0]; decide
 have q4 : ((bs Kw.loop.bytes).toList == [105, 102]) = false := by rw [bs_beq0]; decide
 have q5 : ((bs Kw.loop.bytes).toList == [108, 111, 111, 112]) = true := by rw [bs_beq0]; decide
 have hh := fun w => halves_n w
 have hpb := fun w => plain_any b w hb
 have hpc := fun w => plain_any c w hc
 have k0 : ((bs Ty.n.txt).toList == [110]) = true := by rw [bs_beq0]; decide
 have ke : ((bs b.plain).toList == (bs c.plain).toList) = true := by rw [(plain_inj b c).2 heq]; simp
 clear hy hx heq
 show Calls _ _ #[Value.pointer (some ⟨yb, 0, none⟩), Value.pointer (some ⟨xb, 0, none⟩), _] w _
 go_enter Tryz.func144, Tryz.ntmps144
 go_wp2_with (go_at_call 171; refine (hh _).mono ?_; rintro e w1 ⟨rfl, rfl⟩)
 go_quiet (first | (go_at_call_of 173 (Value.string (bs b.txt)); exact Calls.quiet_of (hpb _)) | (go_at_call_of 173 (Value.string (bs c.txt)); exact Calls.quiet_of (hpc _)))
 go_wp2
 go_ret
 exact ⟨rfl, made_ok HY.out⟩
set_option maxRecDepth 100000 in
set_option maxHeartbeats 1000000 in
theorem made_loop_no (w : World) (yb xb : Nat) (cv nv tv ov kv : Value) (p : Nat) (nm : List UInt8) (px : Nat) (n : Int) (id last site : Nat) (hne : xb ≠ yb)
  (hy : w.heap[yb]? = some (.cells (tyCells cv nv tv ov 0 p) 115 (0, 0)))
  (hx : w.heap[xb]? = some (.cells (exCells Kw.loop.bytes px nm n kv id last site) 82 (0, 0)))
  (b c : Ty) (hb : b.txt.length ≤ 100000) (hc : c.txt.length ≤ 100000) (heq : ¬ b.bare = c.bare) :
  Calls Tryz.prog 144 #[ptr yb, ptr xb, .agg #[.string (bs Ty.n.txt), .string (bs b.txt), .string (bs c.txt)]] w fun v w' => v = .returned (.string (bs [110])) ∧ w.grownBy w' (some yb) ∧ w'.heap[yb]? = some (.cells (tyCells cv nv tv ov 5 px) 115 (0, 0)) := by
 have x0 : w.cell? ⟨xb, 0, none⟩ = some (.string (bs Kw.loop.bytes)) := by rw [blk_cell hx]; rfl
 have hxb := blk_lt hx
 have hyb := blk_lt hy
 have HY : Hid _ := hy
 have HX : Hid _ := hx
 have q0 : ((bs Kw.loop.bytes).toList == [110, 101, 119]) = false := by rw [bs_beq0]; decide
 have q1 : ((bs Kw.loop.bytes).toList == [112, 97, 105, 114]) = false := by rw [bs_beq0]; decide
 have q2 : ((bs Kw.loop.bytes).toList == [102, 115, 116]) = false := by rw [bs_beq0]; decide
 have q3 : ((bs Kw.loop.bytes).toList == [115, 110, 100]) = false := by rw [bs_beq0]; decide
 have q4 : ((bs Kw.loop.bytes).toList == [105, 102]) = false := by rw [bs_beq0]; decide
 have q5 : ((bs Kw.loop.bytes).toList == [108, 111, 111, 112]) = true := by rw [bs_beq0]; decide
 have hh := fun w => halves_n w
 have hpb := fun w => plain_any b w hb
 have hpc := fun w => plain_any c w hc
 have k0 : ((bs Ty.n.txt).toList == [110]) = true := by rw [bs_beq0]; decide
 have ke : ((bs b.plain).toList == (bs c.plain).toList) = false := by
  rw [Lib.toList_data, Lib.toList_data, bs_toList, bs_toList, beq_eq_false_iff_ne]; exact fun h => heq ((plain_inj b c).1 h)
 have her := fun (o : Obj) (m : Nat) => err_any ((w.alloc o).drewN m) yb xb cv nv tv ov kv 0 p 5 _ nm px n id last site hne (blk_alloc o hy) (blk_alloc o hx)
 unfold ptr at her
 clear hy hx heq
 show Calls _ _ #[Value.pointer (some ⟨yb, 0, none⟩), Value.pointer (some ⟨xb, 0, none⟩), _] w _
 go_enter Tryz.func144, Tryz.ntmps144
 go_wp2_with (go_at_call 171; refine (hh _).mono ?_; rintro e w1 ⟨rfl, rfl⟩)
 go_quiet (first | (go_at_call_of 173 (Value.string (bs b.txt)); exact Calls.quiet_of (hpb _)) | (go_at_call_of 173 (Value.string (bs c.txt)); exact Calls.quiet_of (hpc _)))
 go_wp2_with (go_at_call 115; refine (her _ _).mono ?_; rintro e w2 ⟨rfl, hg1, hy1⟩)
 go_ret
 exact ⟨rfl, gr_trans (grew_of (below_box _ _ _) _) hg1, hy1⟩
set_option maxRecDepth 100000 in
set_option maxHeartbeats 1000000 in
theorem made_loop_p (w : World) (yb xb : Nat) (cv nv tv ov kv : Value) (p : Nat) (nm : List UInt8) (px : Nat) (n : Int) (id last site : Nat) (hne : xb ≠ yb)
  (hy : w.heap[yb]? = some (.cells (tyCells cv nv tv ov 0 p) 115 (0, 0)))
  (hx : w.heap[xb]? = some (.cells (exCells Kw.loop.bytes px nm n kv id last site) 82 (0, 0)))
  (r : Nat) (a a' : Ty) (hs : (Ty.p r a a').txt.length ≤ 100000) (b c : ByteArray) :
  Calls Tryz.prog 144 #[ptr yb, ptr xb, .agg #[.string (bs (Ty.p r a a').txt), .string b, .string c]] w fun v w' => v = .returned (.string (bs [110])) ∧ w.grownBy w' (some yb) ∧ w'.heap[yb]? = some (.cells (tyCells cv nv tv ov 5 px) 115 (0, 0)) := by
 have x0 : w.cell? ⟨xb, 0, none⟩ = some (.string (bs Kw.loop.bytes)) := by rw [blk_cell hx]; rfl
 have hxb := blk_lt hx
 have hyb := blk_lt hy
 have HY : Hid _ := hy
 have HX : Hid _ := hx
 have q0 : ((bs Kw.loop.bytes).toList == [110, 101, 119]) = false := by rw [bs_beq0]; decide
 have q1 : ((bs Kw.loop.bytes).toList == [112, 97, 105, 114]) = false := by rw [bs_beq0]; decide
 have q2 : ((bs Kw.loop.bytes).toList == [102, 115, 116]) = false := by rw [bs_beq0]; decide
 have q3 : ((bs Kw.loop.bytes).toList == [115, 110, 100]) = false := by rw [bs_beq0]; decide
 have q4 : ((bs Kw.loop.bytes).toList == [105, 102]) = false := by rw [bs_beq0]; decide
 have q5 : ((bs Kw.loop.bytes).toList == [108, 111, 111, 112]) = true := by rw [bs_beq0]; decide
 have hh := fun w => halves_p r a a' w hs
 have k0 : ((bs (Ty.p r a a').txt).toList == [110]) = false := by rw [bs_beq0]; simp [Ty.txt]
 have her := fun (o : Obj) (m : Nat) => err_any ((w.alloc o).drewN m) yb xb cv nv tv ov kv 0 p 5 _ nm px n id last site hne (blk_alloc o hy) (blk_alloc o hx)
 unfold ptr at her
 clear hy hx
 show Calls _ _ #[Value.pointer (some ⟨yb, 0, none⟩), Value.pointer (some ⟨xb, 0, none⟩), _] w _
 go_enter Tryz.func144, Tryz.ntmps144
 go_wp2_with (go_at_call 171; refine (hh _).mono ?_; rintro e w1 ⟨rfl, n1, rfl⟩)
 go_quiet (fail)
 go_wp2_with (go_at_call 115; refine (her _ _).mono ?_; rintro e w2 ⟨rfl, hg1, hy1⟩)
 go_ret
 exact ⟨rfl, gr_trans (grew_of (below_box _ _ _) _) hg1, hy1⟩
mutual
theorem PT.ind {P : PT → Prop} (h1 : ∀ p s, P (.num p s)) (h2 : ∀ p s, P (.name p s)) (h3 : ∀ p k nm rg kids, (∀ x ∈ kids, P x) → P (.node p k nm rg kids)) : ∀ t, P t
 | .num p s => h1 p s
 | .name p s => h2 p s
 | .node p k nm rg kids => h3 p k nm rg kids (PT.indL h1 h2 h3 kids)
theorem PT.indL {P : PT → Prop} (h1 : ∀ p s, P (.num p s)) (h2 : ∀ p s, P (.name p s)) (h3 : ∀ p k nm rg kids, (∀ x ∈ kids, P x) → P (.node p k nm rg kids)) : ∀ l : List PT, ∀ x ∈ l, P x
 | [] => fun x hx => by simp at hx
 | t :: r => fun x hx => by
  have ht := PT.ind h1 h2 h3 t
  have hr := PT.indL h1 h2 h3 r
  rcases List.mem_cons.1 hx with h | h
  ·rw [h]; exact ht
  ·exact hr x h
end
structure Rec where
 op : List UInt8
 p : Nat
 nm : List UInt8
 n : Int
 id : Nat
 last : Nat
 site : Nat
mutual
def PT.recs : PT → Nat → Nat → List Rec
 | .num p s, id, site => [⟨numB, p, [], valueL s, id, id, site⟩]
 | .name p s, id, site => [⟨nameB, p, s, 0, id, id, site⟩]
 | .node p k nm rg kids, id, site => recsL kids (id + 1) (site + if k = .pair then 1 else 0) ++ [⟨k.bytes, p, nm, valueL rg, id, id + cntL kids, site⟩]
def recsL : List PT → Nat → Nat → List Rec
 | [], _, _ => []
 | t :: r, id, site => t.recs id site ++ recsL r (id + t.cnt) (site + t.prs)
end
def isRec (w : World) (b : Nat) (r : Rec) : Prop := ∃ kv, w.heap[b]? = some (.cells (exCells r.op r.p r.nm r.n kv r.id r.last r.site) 82 (0, 0))
def areRecs (w : World) : List Nat → List Rec → Prop
 | [], [] => True
 | b :: bl, r :: rl => isRec w b r ∧ areRecs w bl rl
 | _, _ => False
theorem areRecs.append {w : World} : ∀ {bl bl' : List Nat} {rl rl' : List Rec}, areRecs w bl rl → areRecs w bl' rl' → areRecs w (bl ++ bl') (rl ++ rl')
 | [], _, [], _, _, h => h
 | b :: bl, _, r :: rl, _, h, h' => ⟨h.1, areRecs.append h.2 h'⟩
 | [], _, _ :: _, _, h, _ => by simp [areRecs] at h
 | _ :: _, _, [], _, h, _ => by simp [areRecs] at h
theorem areRecs.len {w : World} : ∀ {bl : List Nat} {rl : List Rec}, areRecs w bl rl → bl.length = rl.length
 | [], [], _ => rfl
 | b :: bl, r :: rl, h => by simp [areRecs.len h.2]
 | [], _ :: _, h => by simp [areRecs] at h
 | _ :: _, [], h => by simp [areRecs] at h
mutual
theorem recs_len : ∀ (t : PT) (id site : Nat), (t.recs id site).length = t.cnt
 | .num _ _, _, _ => rfl
 | .name _ _, _, _ => rfl
 | .node _ _ _ _ kids, id, site => by simp [PT.recs, PT.cnt, recsL_len kids]; omega
theorem recsL_len : ∀ (ts : List PT) (id site : Nat), (recsL ts id site).length = cntL ts
 | [], _, _ => rfl
 | t :: r, id, site => by simp [recsL, cntL, recs_len t, recsL_len r]
end
theorem recsL_snoc (ts : List PT) (t : PT) : ∀ (id site : Nat), recsL (ts ++ [t]) id site = recsL ts id site ++ t.recs (id + cntL ts) (site + prsL ts) := by
 induction ts with
 | nil => intro id site; simp [recsL, cntL, prsL]
 | cons a r ih => intro id site; simp only [List.cons_append, recsL, ih, cntL, prsL, List.append_assoc]; rw [Nat.add_assoc, Nat.add_assoc]
theorem IsTs.at {w : World} {F : Nat → Prop} : ∀ (ts : List PT) (id site : Nat) (bl : List Nat), IsTs w F ts id site bl → ∀ (i : Nat) (t : PT), ts[i]? = some t → ∃ b, bl[i]? = some b ∧ IsT w F t (id + cntL (ts.take i)) (site + prsL (ts.take i)) b
 | [], _, _, [], _, i, t, ht => by simp at ht
 | a :: ts, id, site, c :: bl, h, 0, t, ht => by
  simp only [IsTs] at h
  simp at ht; subst ht
  exact ⟨c, rfl, by simpa [cntL, prsL] using h.1⟩
 | a :: ts, id, site, c :: bl, h, i + 1, t, ht => by
  simp only [IsTs] at h
  obtain ⟨b, hb, hT⟩ := IsTs.at ts _ _ bl h.2 i t (by simpa using ht)
  refine ⟨b, by simpa using hb, ?_⟩
  simp only [List.take_succ_cons, cntL, prsL]
  rw [← Nat.add_assoc, ← Nat.add_assoc]; exact hT
 | [], _, _, _ :: _, h, _, _, _ => by simp [IsTs] at h
 | _ :: _, _, _, [], h, _, _, _ => by simp [IsTs] at h
theorem cnt_pos (t : PT) : 0 < t.cnt := by cases t <;> simp [PT.cnt] <;> omega
theorem len_cntL (ts : List PT) : ts.length ≤ cntL ts := by
 induction ts with
 | nil => simp
 | cons a r ih => have := cnt_pos a; simp [cntL]; omega
theorem cntL_take (ts : List PT) (i : Nat) : cntL (ts.take i) ≤ cntL ts := by
 induction ts generalizing i with
 | nil => simp
 | cons a r ih => cases i with
  | zero => simp [cntL]
  | succ i => have := ih i; simp [cntL]; omega
theorem Tryz.undPtrs : Tryz.prog.underlying 76 = some (.slice 63) := by kernel_rfl
theorem Tryz.infoPtr : (Tryz.prog.info? 63).map (fun i => (i.zero, i.size, i.bytes)) = some (some (.pointer none), 1, 8) := by kernel_rfl
set_option maxRecDepth 100000 in
set_option maxHeartbeats 1000000 in
theorem all_leaf (b : Nat) (w0 w : World) (op : List UInt8) (p : Nat) (nm : List UInt8) (n : Int) (id site : Nat) (hb : w0.heap[b]? = some (.cells (exCells op p nm n (.slice none 0 0) id id site) 82 (0, 0))) (hw0 : Below w0.heap.size w0 w) :
  Calls Tryz.prog 69 #[ptr b] w fun e w' => ∃ g cap bl, e = .returned (.slice (some ⟨g, 0, none⟩) bl.length cap) ∧ Below w.heap.size w w' ∧ w'.ownsRow w.heap.size 63 1 (.slice (some ⟨g, 0, none⟩) bl.length cap) bl.length (bl.map ptr) ∧ areRecs w0 bl [⟨op, p, nm, n, id, id, site⟩] := by
 obtain ⟨i0, hi, hz0, hz1, hz2⟩ := info_parts Tryz.infoPtr
 have HI : Hid _ := hi
 have HZ0 : Hid _ := hz0
 have HZ1 : Hid _ := hz1
 have HZ2 : Hid _ := hz2
 clear hi hz0 hz1 hz2
 have hbw := blk_lt hb
 have x4 : w.cell? ⟨b, 4, none⟩ = some (.slice none 0 0) := (hw0.cell (p := ⟨b, 4, none⟩) hbw).trans (by rw [blk_cell hb]; rfl)
 have HB : Hid _ := hb
 clear hb
 show Calls _ _ #[Value.pointer (some ⟨b, 0, none⟩)] w _
 go_enter Tryz.func69, Tryz.ntmps69
 go_wp2
 refine wp_loop_rounds 1 ?_
 rw [rounds_succ]
 go_wp2_with (at_builtin; refine wpList_append_own _ rfl (.tmp 26) (.tmp 28) 76 rfl w.heap.size 63 i0 _ 1 8 Tryz.undPtrs HI.out HZ0.out HZ1.out HZ2.out rfl (by decide) _ 0 [] rfl (World.ownsRow_nil _ _ _ _) ⟨w.heap.size, 0, none⟩ 1 1 [ptr b] rfl rfl ?d1 ?d2 ?d3 ?d4 ?d5 ?_)
 case d1 =>
  intro j' u hj'
  match j', hj' with
  | 0, hj' => simp at hj'; subst hj'; simp [Addr.add, ptr]
  | j' + 1, hj' => simp at hj'
 case d2 => intro u hu; simp at hu; subst hu; rfl
 case d3 => unfold maxLen; omega
 case d4 => omega
 case d5 => simp
 intro v' w2 hown' hgrow hnil
 have HB2 : Hid (Below w.heap.size w w2) := ((Below.refl w.heap.size w).alloc (Nat.le_refl _) _).grown hgrow (by simp) (fun b hb => by simp [Value.ownBlock] at hb)
 obtain ⟨g2, cap2, hv2⟩ : ∃ g2 cap2, v' = .slice (some ⟨g2, 0, none⟩) 1 cap2 := by
  rcases hown'.2 with ⟨h, h'⟩ | ⟨g', cap', cur, h, _⟩
  ·omega
  ·exact ⟨_, _, h⟩
 rw [hv2] at hown' ⊢
 have HO3 : Hid (w2.ownsRow w.heap.size 63 1 (.slice (some ⟨g2, 0, none⟩) 1 cap2) 1 [ptr b]) := hown'
 clear hown' hgrow hnil hv2
 go_wp2
 go_ret
 exact ⟨g2, cap2, [b], rfl, HB2.out, HO3.out, ⟨_, HB.out⟩, True.intro⟩
set_option maxRecDepth 100000 in
set_option maxHeartbeats 1000000 in
theorem all_any (t : PT) : ∀ (id site b : Nat) (F : Nat → Prop) (w0 : World), t.cnt ≤ 9000 → IsT w0 F t id site b → ∀ w : World, Below w0.heap.size w0 w → Calls Tryz.prog 69 #[ptr b] w fun e w' =>
  ∃ g cap bl, e = .returned (.slice (some ⟨g, 0, none⟩) bl.length cap) ∧ Below w.heap.size w w' ∧ w'.ownsRow w.heap.size 63 1 (.slice (some ⟨g, 0, none⟩) bl.length cap) bl.length (bl.map ptr) ∧ areRecs w0 bl (t.recs id site) := by
 induction t using PT.ind with
 | h1 p s =>
  intro id site b F w0 hcnt hT w hw0
  simp only [IsT] at hT
  exact all_leaf b w0 w _ _ _ _ _ _ hT.2 hw0
 | h2 p s =>
  intro id site b F w0 hcnt hT w hw0
  simp only [IsT] at hT
  exact all_leaf b w0 w _ _ _ _ _ _ hT.2 hw0
 | h3 p k nm rg kids ih =>
  intro id site b F w0 hcnt hT w hw0
  obtain ⟨i0, hi, hz0, hz1, hz2⟩ := info_parts Tryz.infoPtr
  have HI : Hid _ := hi
  have HZ0 : Hid _ := hz0
  have HZ1 : Hid _ := hz1
  have HZ2 : Hid _ := hz2
  clear hi hz0 hz1 hz2
  simp only [IsT] at hT
  obtain ⟨hFb, kv, bl, hb, hF, hkv, hts⟩ := hT
  have hbw := blk_lt hb
  have hw0s := hw0.size
  have x4 : w.cell? ⟨b, 4, none⟩ = some kv := (hw0.cell (p := ⟨b, 4, none⟩) hbw).trans (by rw [blk_cell hb]; rfl)
  have hkl : kids.length ≤ 9000 := by have := len_cntL kids; simp only [PT.cnt] at hcnt; omega
  have hlen := IsTs.len _ _ _ _ hts
  have hcl : cntL kids ≤ 9000 := by simp only [PT.cnt] at hcnt; omega
  obtain ⟨va, vc, hvk⟩ : ∃ va vc, kv = .slice va kids.length vc := by
   rcases hkv.2 with ⟨h, h'⟩ | ⟨g, cap, cur, h, _⟩
   ·exact ⟨none, 0, by rw [h, h']⟩
   ·exact ⟨_, _, h⟩
  have HB : Hid _ := hb
  have HKV : Hid (w0.ownsRow 0 63 1 kv kids.length (bl.map ptr)) := hkv
  have HTS : Hid _ := hts
  have HV : Hid _ := hvk
  rw [hvk] at x4
  clear hb hkv hts hvk
  show Calls _ _ #[Value.pointer (some ⟨b, 0, none⟩)] w _
  go_enter Tryz.func69, Tryz.ntmps69
  go_wp2
  go_loopw [3, 4] (fun v i wr => ∃ (j : Nat) (cl : List Nat), j ≤ kids.length ∧ i = .int .i64 j ∧ Below w.heap.size w wr ∧ wr.ownsRow w.heap.size 63 1 v cl.length (cl.map ptr) ∧ areRecs w0 cl (recsL (kids.take j) (id + 1) (site + if k = .pair then 1 else 0))) (fun _ i _ => kids.length - (intOf i).toNat)
  case atStart => exact ⟨0, [], by omega, rfl, Below.refl _ _, World.ownsRow_nil _ _ _ _, by simp [recsL, areRecs]⟩
  case round =>
   obtain ⟨j, cl, hj, rfl, hbel, hown, hrec⟩ := hrel
   have x4r : wr.cell? ⟨b, 4, none⟩ = some (.slice va kids.length vc) := (hbel.cell (p := ⟨b, 4, none⟩) (by simp only; omega)).trans x4
   by_cases hlt : j < kids.length
   ·obtain ⟨x, hx⟩ : ∃ x, kids[j]? = some x := ⟨kids[j], List.getElem?_eq_getElem hlt⟩
    obtain ⟨bx, hbx, hTx⟩ := IsTs.at _ _ _ _ HTS.out j x hx
    have hcx : x.cnt ≤ 9000 := by
     have h1 := cntL_take kids (j + 1)
     rw [List.take_add_one, hx] at h1
     simp only [Option.toList_some] at h1
     rw [cntL_snoc] at h1
     omega
    have hcj : cl.length ≤ 9000 := by
     rw [hrec.len, recsL_len]
     have h1 := cntL_take kids j
     omega
    obtain ⟨gk, hgk⟩ : ∃ gk, va = some ⟨gk, 0, none⟩ := by
     have h := HKV.out.2
     rw [HV.out] at h
     rcases h with ⟨h, h'⟩ | ⟨g, cap, cur, h, _⟩
     ·omega
     ·simp only [Value.slice.injEq] at h; exact ⟨_, h.1⟩
    have hkc : w0.cell? ⟨gk, j, none⟩ = some (ptr bx) := by
     have h : w0.ownsRow 0 63 1 (.slice (some ⟨gk, 0, none⟩) kids.length vc) kids.length (bl.map ptr) := by rw [← hgk, ← HV.out]; exact HKV.out
     rw [h.cellAt j (by omega)]; simp [hbx]
    have hgkw : gk < w0.heap.size := World.block_lt_of_cell? _ _ hkc
    have hkcr : wr.cell? ⟨gk, j, none⟩ = some (ptr bx) := ((hw0.trans (hbel.mono hw0s)).cell (p := ⟨gk, j, none⟩) hgkw).trans hkc
    subst hgk
    unfold ptr at hkcr
    have hca := ih x (List.mem_of_getElem? hx) _ _ bx F w0 hcx hTx wr (hw0.trans (hbel.mono hw0s))
    unfold ptr at hca
    have HX : Hid _ := hx
    have HREC : Hid _ := hrec
    have HOWN : Hid (wr.ownsRow w.heap.size 63 1 _ cl.length (cl.map ptr)) := hown
    have HTX : Hid _ := hTx
    have hsz := hbel.size
    clear hx hbx hTx hkc hrec hown
    have hcs : cl.length + x.cnt ≤ 9000 := by
     have h0 := hcl
     have h1 := cntL_take kids (j + 1)
     rw [List.take_add_one, HX.out] at h1
     simp only [Option.toList_some] at h1
     rw [cntL_snoc] at h1
     have h2 := HREC.out.len
     rw [recsL_len] at h2
     omega
    go_wp2_with (first
     | (go_at_call 69; refine hca.mono ?_; rintro e w1 ⟨g1, cap1, bl1, rfl, hb1, ho1, hr1⟩)
     | (at_builtin; go_must (refine wpList_append_own _ rfl (.tmp 23) (.tmp 24) 76 rfl w.heap.size 63 i0 _ 1 8 Tryz.undPtrs HI.out HZ0.out HZ1.out HZ2.out rfl (by decide) _ cl.length (cl.map ptr) rfl (owns_below HOWN.out hb1) ⟨g1, 0, none⟩ bl1.length cap1 (bl1.map ptr) rfl ?d0 ?d1 ?d2 ?d3 ?d4 ?d5 ?_)))
    case d0 => simp
    case d1 => intro j' u hj'; exact ho1.cells rfl j' u hj'
    case d2 => intro u hu; simp at hu; obtain ⟨_, _, rfl⟩ := hu; rfl
    case d3 => have := hr1.len; rw [recs_len] at this; unfold maxLen; omega
    case d4 => have := hr1.len; rw [recs_len] at this; omega
    case d5 => have := hb1.size; omega
    intro v' w2 hown' hgrow hnil
    have hsz1 := hb1.size
    have HB2 : Hid (Below w.heap.size w w2) := (hbel.trans (hb1.mono hsz)).grown hgrow (by omega) (fun b hb => (World.ownsRow.lt HOWN.out b hb).1)
    have HO3 : Hid (w2.ownsRow w.heap.size 63 1 v' (cl.length + bl1.length) (cl.map ptr ++ bl1.map ptr)) := hown'
    have HR3 : Hid (areRecs w0 (cl ++ bl1) (recsL (kids.take j) (id + 1) (site + if k = .pair then 1 else 0) ++ x.recs (id + 1 + cntL (kids.take j)) (site + (if k = .pair then 1 else 0) + prsL (kids.take j)))) := by
     exact areRecs.append HREC.out hr1
    clear hown' hgrow hnil ho1 hr1 hb1
    go_wp2
    go_roundw
    case rel =>
     refine ⟨j + 1, cl ++ bl1, by omega, by go_num, HB2.out, ?_, ?_⟩
     ·have := HO3.out; simpa using this
     ·have := HR3.out
      rw [List.take_add_one, HX.out]
      simp only [Option.toList_some]
      rw [recsL_snoc]; exact this
    case measure => simp [intOf]; omega
   ·have hcj : cl.length ≤ 9000 := by
     rw [hrec.len, recsL_len]
     have h1 := cntL_take kids j
     omega
    have HREC : Hid _ := hrec
    have HOWN : Hid (wr.ownsRow w.heap.size 63 1 _ cl.length (cl.map ptr)) := hown
    have hsz := hbel.size
    clear hrec hown
    go_wp2_with (at_builtin; refine wpList_append_own _ rfl (.tmp 26) (.tmp 28) 76 rfl w.heap.size 63 i0 _ 1 8 Tryz.undPtrs HI.out HZ0.out HZ1.out HZ2.out rfl (by decide) _ cl.length (cl.map ptr) rfl (HOWN.out.alloc _) ⟨wr.heap.size, 0, none⟩ 1 1 [ptr b] rfl rfl ?d1 ?d2 ?d3 ?d4 ?d5 ?_)
    case d1 =>
     intro j' u hj'
     match j', hj' with
     | 0, hj' => simp at hj'; subst hj'; simp [Addr.add, ptr]
     | j' + 1, hj' => simp at hj'
    case d2 => intro u hu; simp at hu; subst hu; rfl
    case d3 => unfold maxLen; omega
    case d4 => omega
    case d5 => simp; omega
    intro v' w2 hown' hgrow hnil
    have HB2 : Hid (Below w.heap.size w w2) := (hbel.alloc hsz _).grown hgrow (by simp; omega) (fun b hb => (World.ownsRow.lt HOWN.out b hb).1)
    obtain ⟨g2, cap2, hv2⟩ : ∃ g2 cap2, v' = .slice (some ⟨g2, 0, none⟩) (cl.length + 1) cap2 := by
     rcases hown'.2 with ⟨h, h'⟩ | ⟨g', cap', cur, h, _⟩
     ·omega
     ·exact ⟨_, _, h⟩
    rw [hv2] at hown' ⊢
    have HO3 : Hid (w2.ownsRow w.heap.size 63 1 (.slice (some ⟨g2, 0, none⟩) (cl.length + 1) cap2) (cl.length + 1) (cl.map ptr ++ [ptr b])) := hown'
    clear hown' hgrow hnil hv2
    go_wp2
    go_ret
    refine ⟨g2, cap2, cl ++ [b], by simp, HB2.out, ?_, ?_⟩
    ·have := HO3.out; simpa using this
    ·have hj' : j = kids.length := by omega
     have hr := HREC.out
     rw [hj', List.take_length] at hr
     simp only [PT.recs]
     exact areRecs.append hr ⟨⟨_, HB.out⟩, True.intro⟩
def strV (l : List UInt8) : Value := .string (bs l)
def apart (u v : Value) : Prop := ∀ g, u.ownBlock = some g → v.ownBlock ≠ some g
theorem apart.symm {u v : Value} (h : apart u v) : apart v u := fun g hg hu => h g hu hg
structure TyIn (w0 w : World) (yb : Nat) (cls : List Nat) (cv nv tv ov : Value) (env : TEnv) (st : TSt) : Prop where
 b0 : Below w0.heap.size w0 w
 hyb : w0.heap.size ≤ yb
 y : w.heap[yb]? = some (.cells (tyCells cv nv tv ov st.e st.at_) 115 (0, 0))
 c : w.ownsRow w0.heap.size 3 1 cv cls.length (cls.map fun (k : Nat) => Value.int .i64 k)
 n : w.ownsRow w0.heap.size 9 1 nv env.length (env.map fun x => strV x.1)
 t : w.ownsRow w0.heap.size 9 1 tv env.length (env.map fun x => strV x.2.txt)
 o : w.ownsRow w0.heap.size 9 1 ov st.of.length (st.of.map strV)
 cy : cv.ownBlock ≠ some yb
 ny : nv.ownBlock ≠ some yb
 ty : tv.ownBlock ≠ some yb
 oy : ov.ownBlock ≠ some yb
 cn : apart cv nv
 ct : apart cv tv
 co : apart cv ov
 nt : apart nv tv
 no : apart nv ov
 tov : apart tv ov
structure Fr (w w' : World) (yb : Nat) (nv tv ov nv' tv' : Value) : Prop where
 size : w.heap.size ≤ w'.heap.size
 blk : ∀ k, k < w.heap.size → k ≠ yb → nv.ownBlock ≠ some k → tv.ownBlock ≠ some k → ov.ownBlock ≠ some k → w'.heap[k]? = w.heap[k]?
 n : ∀ g, nv'.ownBlock = some g → nv.ownBlock = some g ∨ w.heap.size ≤ g
 t : ∀ g, tv'.ownBlock = some g → tv.ownBlock = some g ∨ w.heap.size ≤ g
theorem Fr.trans {w w1 w2 : World} {yb : Nat} {nv tv ov nv1 tv1 nv2 tv2 : Value} (h : Fr w w1 yb nv tv ov nv1 tv1) (h' : Fr w1 w2 yb nv1 tv1 ov nv2 tv2) : Fr w w2 yb nv tv ov nv2 tv2 := by
 refine ⟨Nat.le_trans h.size h'.size, ?_, ?_, ?_⟩
 ·intro k hk hy hn ht ho
  rw [h'.blk k (Nat.lt_of_lt_of_le hk h.size) hy (fun e => by rcases h.n k e with e | e; exact hn e; omega) (fun e => by rcases h.t k e with e | e; exact ht e; omega) ho]
  exact h.blk k hk hy hn ht ho
 ·intro g hg
  rcases h'.n g hg with e | e
  ·exact h.n g e
  ·exact Or.inr (Nat.le_trans h.size e)
 ·intro g hg
  rcases h'.t g hg with e | e
  ·exact h.t g e
  ·exact Or.inr (Nat.le_trans h.size e)
theorem Fr.below {w w' : World} (h : Below w.heap.size w w') (yb : Nat) (nv tv ov : Value) : Fr w w' yb nv tv ov nv tv := ⟨h.size, fun k hk _ _ _ _ => h.block k hk, fun _ h => Or.inl h, fun _ h => Or.inl h⟩
theorem Fr.grown {w w' : World} {yb : Nat} (h : w.grownBy w' (some yb)) (nv tv ov : Value) : Fr w w' yb nv tv ov nv tv := ⟨h.size, fun k hk hy _ _ _ => h.block k hk (fun e => by cases e; exact hy rfl), fun _ h => Or.inl h, fun _ h => Or.inl h⟩
theorem Fr.set {w w' : World} {yb g o : Nat} {x : Value} (nv tv ov : Value) (ho : ov.ownBlock = some g) (hW : w'.heap = (w.setCell ⟨g, o, none⟩ x).heap) : Fr w w' yb nv tv ov nv tv :=
 ⟨by rw [hW]; simp [World.setCell], fun k _ _ _ _ h => by rw [hW, blk_other _ _ (by simp only; intro e; subst e; exact h ho)], fun _ h => Or.inl h, fun _ h => Or.inl h⟩
def FindOk (w0 : World) (yb : Nat) (cls : List Nat) (t : PT) : Prop :=
 ∀ (id site b : Nat) (F : Nat → Prop) (env : TEnv) (st : TSt) (cv nv tv ov : Value) (w : World), IsT w0 F t id site b → TyIn w0 w yb cls cv nv tv ov env st →
  id + t.cnt ≤ st.of.length → site + t.prs ≤ cls.length → (∀ x ∈ env, x.2.fit) → (st.e = 0 → ∀ x ∈ env, x.2.size ≤ 63) → env.length + t.cnt ≤ 9000 →
  Calls Tryz.prog 71 #[ptr yb, ptr b] w fun v w' => v = .returned (.string (bs (tyFind cls t id site env st).1.txt)) ∧
   ∃ nv' tv', Fr w w' yb nv tv ov nv' tv' ∧ TyIn w0 w' yb cls cv nv' tv' ov env (tyFind cls t id site env st).2
def FormOk (w0 : World) (yb : Nat) (cls : List Nat) (t : PT) (f : Nat → Nat → TEnv → TSt → Ty × TSt) : Prop :=
 ∀ (id site b : Nat) (F : Nat → Prop) (env : TEnv) (st : TSt) (cv nv tv ov : Value) (w : World), IsT w0 F t id site b → TyIn w0 w yb cls cv nv tv ov env st →
  id + t.cnt ≤ st.of.length → site + t.prs ≤ cls.length → (∀ x ∈ env, x.2.fit) → (st.e = 0 → ∀ x ∈ env, x.2.size ≤ 63) → env.length + t.cnt ≤ 9000 →
  Calls Tryz.prog 113 #[ptr yb, ptr b] w fun v w' => v = .returned (.string (bs (f id site env st).1.txt)) ∧
   ∃ nv' tv', Fr w w' yb nv tv ov nv' tv' ∧ TyIn w0 w' yb cls cv nv' tv' ov env (f id site env st).2
def PT.pl : PT → Nat
 | .num p _ => p
 | .name p _ => p
 | .node p _ _ _ _ => p
theorem isT_blk {w : World} {F : Nat → Prop} {t : PT} {id site b : Nat} (h : IsT w F t id site b) : ∃ op nm n kv last, w.heap[b]? = some (.cells (exCells op t.pl nm n kv id last site) 82 (0, 0)) := by
 cases t with
 | num p s => simp only [IsT] at h; exact ⟨_, _, _, _, _, h.2⟩
 | name p s => simp only [IsT] at h; exact ⟨_, _, _, _, _, h.2⟩
 | node p k nm rg kids => simp only [IsT] at h; obtain ⟨_, kv, bl, h1, _⟩ := h; exact ⟨_, _, _, _, _, h1⟩
theorem TyIn.err {w0 w w' : World} {yb : Nat} {cls : List Nat} {cv nv tv ov : Value} {env : TEnv} {st : TSt} (h : TyIn w0 w yb cls cv nv tv ov env st) (hg : w.grownBy w' (some yb)) {e p : Nat}
  (hy : w'.heap[yb]? = some (.cells (tyCells cv nv tv ov e p) 115 (0, 0))) : TyIn w0 w' yb cls cv nv tv ov env { st with e := e, at_ := p } := by
 have keep : ∀ (v : Value) (base : Nat) (ty : TypeId) (n : Nat) (xs : List Value), w.ownsRow base ty 1 v n xs → v.ownBlock ≠ some yb → w'.ownsRow base ty 1 v n xs := by
  intro v base ty n xs ho hv
  exact owns_blk ho (fun k hk => hg.block k (ho.lt k hk).2 (fun e => by cases e; exact hv hk))
 refine ⟨?_, h.hyb, hy, keep _ _ _ _ _ h.c h.cy, keep _ _ _ _ _ h.n h.ny, keep _ _ _ _ _ h.t h.ty, keep _ _ _ _ _ h.o h.oy, h.cy, h.ny, h.ty, h.oy, h.cn, h.ct, h.co, h.nt, h.no, h.tov⟩
 refine h.b0.trans ⟨hg.os, hg.tape, hg.output, hg.size, fun k hk => hg.block k (by have := h.b0.size; omega) (fun e => by cases e; have := h.hyb; omega)⟩
theorem TyIn.setOf {w0 w w' : World} {yb : Nat} {cls : List Nat} {cv nv tv : Value} {env : TEnv} {st : TSt} {g cap : Nat} (h : TyIn w0 w yb cls cv nv tv (.slice (some ⟨g, 0, none⟩) st.of.length cap) env st) (id : Nat) (x : List UInt8)
  (hW : w'.heap = (w.setCell ⟨g, id, none⟩ (strV x)).heap) (h1 : w'.os = w.os) (h2 : w'.tape = w.tape) (h3 : w'.output = w.output) :
  TyIn w0 w' yb cls cv nv tv (.slice (some ⟨g, 0, none⟩) (st.of.set id x).length cap) env { st with of := st.of.set id x } := by
 have hlt := h.o.lt g rfl
 have hoth : ∀ k, k ≠ g → w'.heap[k]? = w.heap[k]? := fun k hk => by rw [hW, blk_other _ _ (by simpa using hk)]
 have hs : w'.heap.size = w.heap.size := by rw [hW]; simp [World.setCell]
 have keep : ∀ (v : Value) (base : Nat) (ty : TypeId) (n : Nat) (xs : List Value), w.ownsRow base ty 1 v n xs → apart v (.slice (some ⟨g, 0, none⟩) st.of.length cap) → w'.ownsRow base ty 1 v n xs := by
  intro v base ty n xs ho hv
  exact owns_blk ho (fun k hk => hoth k (fun e => hv k hk (by rw [e]; rfl)))
 have ho' := (h.o.stored id (strV x)).1
 refine ⟨?_, h.hyb, ?_, keep _ _ _ _ _ h.c h.co, keep _ _ _ _ _ h.n h.no, keep _ _ _ _ _ h.t h.tov, ?_, h.cy, h.ny, h.ty, ?_, h.cn, h.ct, ?_, h.nt, ?_, ?_⟩
 ·exact h.b0.trans ⟨h1, h2, h3, by omega, fun k hk => hoth k (by omega)⟩
 ·rw [hoth yb (fun e => h.oy (by rw [e]; rfl))]
  have e : (st.of.set id x).length = st.of.length := by simp
  rw [e]; exact h.y
 ·have e : (st.of.set id x).length = st.of.length := by simp
  show w'.ownsRow _ _ _ (.slice (some ⟨g, 0, none⟩) (st.of.set id x).length cap) (st.of.set id x).length ((st.of.set id x).map strV)
  rw [e, List.map_set]
  exact owns_blk ho' (fun k _ => by rw [hW])
 ·exact h.oy
 ·exact h.co
 ·exact h.no
 ·exact h.tov
theorem fin_big {id p : Nat} {x : Ty × TSt} (h0 : x.2.e = 0) (h : 63 < x.1.size) : fin id p x = (x.1, { e := 6, at_ := p, of := x.2.of.set id x.1.txt }) := by
 simp only [fin, errS]; rw [if_pos ⟨h0, h⟩, if_pos h0]
theorem fin_small {id p : Nat} {x : Ty × TSt} (h : ¬ (x.2.e = 0 ∧ 63 < x.1.size)) : fin id p x = (x.1, { x.2 with of := x.2.of.set id x.1.txt }) := by
 simp only [fin]; rw [if_neg h]
set_option maxRecDepth 100000 in
set_option maxHeartbeats 2000000 in
theorem find_of {w0 : World} {yb : Nat} {cls : List Nat} {t : PT} {f : Nat → Nat → TEnv → TSt → Ty × TSt} (hf : FormOk w0 yb cls t f)
  (heq : ∀ id site env st, tyFind cls t id site env st = fin id t.pl (f id site env st)) (hlen : ∀ id site env st, (f id site env st).2.of.length = st.of.length) (hsize : ∀ id site (env : TEnv) (st : TSt), (∀ x ∈ env, x.2.fit) → (st.e = 0 → ∀ x ∈ env, x.2.size ≤ 63) → (f id site env st).1.fit) : FindOk w0 yb cls t := by
 intro id site b F env st cv nv tv ov w hT hin hid hsite hs1 hs2 henv
 have hfo := hf id site b F env st cv nv tv ov w hT hin hid hsite hs1 hs2 henv
 rw [heq]
 have hl := hlen id site env st
 have hsz := fit_len (hsize id site env st hs1 hs2)
 obtain ⟨ty, hty⟩ : ∃ x, x = f id site env st := ⟨_, rfl⟩
 rw [← hty] at hfo hl hsz ⊢
 obtain ⟨ty, st1⟩ := ty
 simp only at hfo hl hsz ⊢
 have hcp := cnt_pos t
 have hsa := size_any (bs ty.txt)
 rw [bs_toList, size_txt] at hsa
 have hsa' : ∀ w, (bs ty.txt).size ≤ maxLen → Calls Tryz.prog 114 #[.string (bs ty.txt)] w fun e w' => e = .returned (.int .i64 (ty.size : Nat)) ∧ w = w' := fun w h => (hsa w h).mono (fun _ _ h => ⟨h.1, h.2.symm⟩)
 clear hsa
 obtain ⟨op, nm, n, kv, last, hxb⟩ := isT_blk hT
 have hb := blk_lt hxb
 have HXB : Hid _ := hxb
 have hyb := hin.hyb
 have hbs : (bs ty.txt).size ≤ maxLen := by rw [bs_size]; unfold maxLen; omega
 clear hty hxb hs1 hs2 hT hin
 unfold ptr at hfo
 by_cases hbig : st1.e = 0 ∧ 63 < ty.size
 ·obtain ⟨h0, h63⟩ := hbig
  have HFB : Hid _ := fin_big (id := id) (p := t.pl) (x := (ty, st1)) h0 h63
  show Calls _ _ #[Value.pointer (some ⟨yb, 0, none⟩), Value.pointer (some ⟨b, 0, none⟩)] w _
  go_enter Tryz.func71, Tryz.ntmps71
  go_wp2_with (first
   | (go_at_call 113; refine hfo.mono ?_; rintro e w1 ⟨rfl, nv', tv', hg1, hin1⟩; have y4 : w1.cell? ⟨yb, 4, none⟩ = some (.int .i64 0) := (by rw [blk_cell hin1.y]; show some (Value.int .i64 (st1.e : Nat)) = _; rw [h0]; rfl))
   | (go_at_call 114; refine (hsa' _ hbs).mono ?_; rintro e w' ⟨rfl, rfl⟩))
  have her := err_any w1 yb b cv nv' tv' ov kv st1.e st1.at_ 6 op nm t.pl n id last site (by omega) hin1.y (by rw [hin1.b0.block b hb]; exact HXB.out)
  unfold ptr at her
  rw [if_pos h0, if_pos h0] at her
  refine her.mono ?_
  rintro e w2 ⟨rfl, hg2, hy2⟩
  have hinx := hin1.err hg2 hy2
  have hg12 : Fr w w2 yb nv tv ov nv' tv' := hg1.trans (Fr.grown hg2 _ _ _)
  clear hin1 y4 hg2 hy2 her hg1
  have hg1 := hg12
  obtain ⟨st2, hst2⟩ : ∃ st2 : TSt, st2 = { st1 with e := 6, at_ := t.pl } := ⟨_, rfl⟩
  rw [← hst2] at hinx
  have hl2 : st2.of.length = st.of.length := by rw [hst2]; exact hl
  have HS2 : Hid _ := hst2
  clear hst2 h0 h63
  have o1 := hinx.o
  obtain ⟨go, oc, hov⟩ : ∃ go oc, ov = .slice (some ⟨go, 0, none⟩) st2.of.length oc := by
   rcases o1.2 with ⟨_, h⟩ | ⟨g, cap, cur, h, _⟩
   ·omega
   ·exact ⟨_, _, h⟩
  rw [hov] at hinx o1
  have y3 : w2.cell? ⟨yb, 3, none⟩ = some (.slice (some ⟨go, 0, none⟩) st2.of.length oc) := by rw [blk_cell hinx.y]; rfl
  have hbx : w2.heap[b]? = some (.cells (exCells op t.pl nm n kv id last site) 82 (0, 0)) := by rw [hinx.b0.block b hb]; exact HXB.out
  have x5 : w2.cell? ⟨b, 5, none⟩ = some (.int .i64 id) := by rw [blk_cell hbx]; rfl
  have z0 : w2.cell? ⟨go, id, none⟩ = some (strV (st2.of[id]'(by omega))) := by rw [o1.cellAt id (by omega), List.getElem?_map, List.getElem?_eq_getElem (by omega)]; rfl
  have z1 : w2.frozen? ⟨go, id, none⟩ = false := o1.frozenAt id
  have HIN : Hid (TyIn w0 w2 yb cls cv nv' tv' (.slice (some ⟨go, 0, none⟩) st2.of.length oc) env st2) := hinx
  have HOV : Hid _ := hov
  have HFR : Hid _ := hg1
  clear hinx o1 hbx hov hg1
  unfold strV at z0
  go_wp2
  go_region
  go_wp2
  go_ret
  have hse := TyIn.setOf HIN.out id ty.txt (w' := (w2.setCell ⟨go, id, none⟩ (.string (bs ty.txt))).drew) rfl rfl rfl rfl
  rw [HFB.out]
  refine ⟨rfl, nv', tv', HFR.out.trans (Fr.set _ _ _ (by rw [HOV.out]; rfl) rfl), ?_⟩
  rw [HOV.out]
  rw [HS2.out] at hse ⊢
  simpa using hse
 ·have HFB : Hid _ := fin_small (id := id) (p := t.pl) (x := (ty, st1)) hbig
  show Calls _ _ #[Value.pointer (some ⟨yb, 0, none⟩), Value.pointer (some ⟨b, 0, none⟩)] w _
  by_cases h0 : st1.e = 0
  ·have h63 : ty.size ≤ 63 := by omega
   go_enter Tryz.func71, Tryz.ntmps71
   go_wp2_with (first
    | (go_at_call 113; refine hfo.mono ?_; rintro e w1 ⟨rfl, nv', tv', hg1, hin1⟩; have y4 : w1.cell? ⟨yb, 4, none⟩ = some (.int .i64 0) := (by rw [blk_cell hin1.y]; show some (Value.int .i64 (st1.e : Nat)) = _; rw [h0]; rfl))
    | (go_at_call 114; refine (hsa' _ hbs).mono ?_; rintro e w' ⟨rfl, rfl⟩))
   have hinx := hin1
   have hl2 : st1.of.length = st.of.length := hl
   clear hin1 y4 h0
   have o1 := hinx.o
   obtain ⟨go, oc, hov⟩ : ∃ go oc, ov = .slice (some ⟨go, 0, none⟩) st1.of.length oc := by
    rcases o1.2 with ⟨_, h⟩ | ⟨g, cap, cur, h, _⟩
    ·omega
    ·exact ⟨_, _, h⟩
   rw [hov] at hinx o1
   have y3 : w1.cell? ⟨yb, 3, none⟩ = some (.slice (some ⟨go, 0, none⟩) st1.of.length oc) := by rw [blk_cell hinx.y]; rfl
   have hbx : w1.heap[b]? = some (.cells (exCells op t.pl nm n kv id last site) 82 (0, 0)) := by rw [hinx.b0.block b hb]; exact HXB.out
   have x5 : w1.cell? ⟨b, 5, none⟩ = some (.int .i64 id) := by rw [blk_cell hbx]; rfl
   have z0 : w1.cell? ⟨go, id, none⟩ = some (strV (st1.of[id]'(by omega))) := by rw [o1.cellAt id (by omega), List.getElem?_map, List.getElem?_eq_getElem (by omega)]; rfl
   have z1 : w1.frozen? ⟨go, id, none⟩ = false := o1.frozenAt id
   have HIN : Hid (TyIn w0 w1 yb cls cv nv' tv' (.slice (some ⟨go, 0, none⟩) st1.of.length oc) env st1) := hinx
   have HOV : Hid _ := hov
   have HFR : Hid _ := hg1
   clear hinx o1 hbx hov hg1
   unfold strV at z0
   go_wp2
   go_region
   go_wp2
   go_ret
   have hse := TyIn.setOf HIN.out id ty.txt (w' := (w1.setCell ⟨go, id, none⟩ (.string (bs ty.txt))).drew) rfl rfl rfl rfl
   rw [HFB.out]
   refine ⟨rfl, nv', tv', HFR.out.trans (Fr.set _ _ _ (by rw [HOV.out]; rfl) rfl), ?_⟩
   rw [HOV.out]
   simpa using hse
  ·have h0' : ((st1.e : Int) == 0) = false := by rw [beq_eq_false_iff_ne]; omega
   go_enter Tryz.func71, Tryz.ntmps71
   go_wp2_with (first
    | (go_at_call 113; refine hfo.mono ?_; rintro e w1 ⟨rfl, nv', tv', hg1, hin1⟩; have y4 : w1.cell? ⟨yb, 4, none⟩ = some (.int .i64 st1.e) := (by rw [blk_cell hin1.y]; rfl))
    | (go_at_call 114; refine (hsa' _ hbs).mono ?_; rintro e w' ⟨rfl, rfl⟩))
   have hinx := hin1
   have hl2 : st1.of.length = st.of.length := hl
   clear hin1 y4 h0
   have o1 := hinx.o
   obtain ⟨go, oc, hov⟩ : ∃ go oc, ov = .slice (some ⟨go, 0, none⟩) st1.of.length oc := by
    rcases o1.2 with ⟨_, h⟩ | ⟨g, cap, cur, h, _⟩
    ·omega
    ·exact ⟨_, _, h⟩
   rw [hov] at hinx o1
   have y3 : w1.cell? ⟨yb, 3, none⟩ = some (.slice (some ⟨go, 0, none⟩) st1.of.length oc) := by rw [blk_cell hinx.y]; rfl
   have hbx : w1.heap[b]? = some (.cells (exCells op t.pl nm n kv id last site) 82 (0, 0)) := by rw [hinx.b0.block b hb]; exact HXB.out
   have x5 : w1.cell? ⟨b, 5, none⟩ = some (.int .i64 id) := by rw [blk_cell hbx]; rfl
   have z0 : w1.cell? ⟨go, id, none⟩ = some (strV (st1.of[id]'(by omega))) := by rw [o1.cellAt id (by omega), List.getElem?_map, List.getElem?_eq_getElem (by omega)]; rfl
   have z1 : w1.frozen? ⟨go, id, none⟩ = false := o1.frozenAt id
   have HIN : Hid (TyIn w0 w1 yb cls cv nv' tv' (.slice (some ⟨go, 0, none⟩) st1.of.length oc) env st1) := hinx
   have HOV : Hid _ := hov
   have HFR : Hid _ := hg1
   clear hinx o1 hbx hov hg1
   unfold strV at z0
   go_wp2
   go_region
   go_wp2
   go_ret
   have hse := TyIn.setOf HIN.out id ty.txt (w' := (w1.setCell ⟨go, id, none⟩ (.string (bs ty.txt))).drew) rfl rfl rfl rfl
   rw [HFB.out]
   refine ⟨rfl, nv', tv', HFR.out.trans (Fr.set _ _ _ (by rw [HOV.out]; rfl) rfl), ?_⟩
   rw [HOV.out]
   simpa using hse
end Go.Proofs.YtpicaknklgccoaaGreatDoor
