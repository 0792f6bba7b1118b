import Derived.Test.YtpicaknklgccoaaGreatDoorX3
import Derived.Deep.RegionHeld3
namespace Go.Proofs.YtpicaknklgccoaaGreatDoor
open Go.RowKit
open Go.Lib (decDigits)
theorem grew_of {w w' : World} (h : Below w.heap.size w w') (row : Option Nat) : w.grownBy w' row := grown_of_below h row
theorem below_box (w : World) (o : Obj) (n : Nat) : Below w.heap.size w ((w.alloc o).drewN n) := ⟨rfl, rfl, rfl, by simp, fun k hk => Below.heap_alloc _ _ _ hk⟩
theorem made_ok {w : World} {yb : Nat} {o : Obj} {n : Nat} {c : Obj} (hy : w.heap[yb]? = some c) : w.grownBy ((w.alloc o).drewN n) (some yb) ∧ ((w.alloc o).drewN n).heap[yb]? = some c :=
 ⟨grew_of (below_box w o n) _, by show (w.alloc o).heap[yb]? = _; exact blk_alloc _ hy⟩
set_option maxRecDepth 100000 in
set_option maxHeartbeats 1000000 in
theorem made_fst_ok (w : World) (yb xb : Nat) (cv nv tv ov kv : Value) (p : Nat) (nm : List UInt8) (px : Nat) (n : Int) (id last site : Nat)
  (hy : w.heap[yb]? = some (.cells (tyCells cv nv tv ov 0 p) 115 (0, 0)))
  (hx : w.heap[xb]? = some (.cells (exCells Kw.fst.bytes px nm n kv id last site) 82 (0, 0)))
  (r : Nat) (a b : Ty) (hs : (Ty.p r a b).txt.length ≤ 100000) :
  Calls Tryz.prog 144 #[ptr yb, ptr xb, .agg #[.string (bs (Ty.p r a b).txt), .string (bs []), .string (bs [])]] w fun v w' => v = .returned (.string (bs a.txt)) ∧ w.grownBy w' (some yb) ∧ w'.heap[yb]? = some (.cells (tyCells cv nv tv ov 0 p) 115 (0, 0)) := by
 have x0 : w.cell? ⟨xb, 0, none⟩ = some (.string (bs Kw.fst.bytes)) := by rw [blk_cell hx]; rfl
 have hxb := blk_lt hx
 have HY : Hid _ := hy
 have HX : Hid _ := hx
 have q0 : ((bs Kw.fst.bytes).toList == [110, 101, 119]) = false := by rw [bs_beq0]; decide
 have q1 : ((bs Kw.fst.bytes).toList == [112, 97, 105, 114]) = false := by rw [bs_beq0]; decide
 have q2 : ((bs Kw.fst.bytes).toList == [102, 115, 116]) = true := by rw [bs_beq0]; decide
 have hh := fun w => halves_p r a b w hs
 clear hy hx
 show Calls _ _ #[Value.pointer (some ⟨yb, 0, none⟩), Value.pointer (some ⟨xb, 0, none⟩), _] w _
 go_enter Tryz.func144, Tryz.ntmps144
 go_wp2_with (go_at_call 171; refine (hh _).mono ?_; rintro e w1 ⟨rfl, n1, rfl⟩)
 go_ret
 exact ⟨rfl, made_ok HY.out⟩
set_option maxRecDepth 100000 in
set_option maxHeartbeats 1000000 in
theorem made_fst_no (w : World) (yb xb : Nat) (cv nv tv ov kv : Value) (p : Nat) (nm : List UInt8) (px : Nat) (n : Int) (id last site : Nat) (hne : xb ≠ yb)
  (hy : w.heap[yb]? = some (.cells (tyCells cv nv tv ov 0 p) 115 (0, 0)))
  (hx : w.heap[xb]? = some (.cells (exCells Kw.fst.bytes px nm n kv id last site) 82 (0, 0))) :
  Calls Tryz.prog 144 #[ptr yb, ptr xb, .agg #[.string (bs Ty.n.txt), .string (bs []), .string (bs [])]] w fun v w' => v = .returned (.string (bs [110])) ∧ w.grownBy w' (some yb) ∧ w'.heap[yb]? = some (.cells (tyCells cv nv tv ov 5 px) 115 (0, 0)) := by
 have x0 : w.cell? ⟨xb, 0, none⟩ = some (.string (bs Kw.fst.bytes)) := by rw [blk_cell hx]; rfl
 have hxb := blk_lt hx
 have HY : Hid _ := hy
 have HX : Hid _ := hx
 have q0 : ((bs Kw.fst.bytes).toList == [110, 101, 119]) = false := by rw [bs_beq0]; decide
 have q1 : ((bs Kw.fst.bytes).toList == [112, 97, 105, 114]) = false := by rw [bs_beq0]; decide
 have q2 : ((bs Kw.fst.bytes).toList == [102, 115, 116]) = true := by rw [bs_beq0]; decide
 have hh := fun w => halves_n w
 have her := fun (o : Obj) => err_any (w.alloc o) yb xb cv nv tv ov kv 0 p 5 _ nm px n id last site hne (blk_alloc o hy) (blk_alloc o hx)
 unfold ptr at her
 clear hy hx
 show Calls _ _ #[Value.pointer (some ⟨yb, 0, none⟩), Value.pointer (some ⟨xb, 0, none⟩), _] w _
 go_enter Tryz.func144, Tryz.ntmps144
 go_wp2_with (first
  | (go_at_call 171; refine (hh _).mono ?_; rintro e w1 ⟨rfl, rfl⟩)
  | (go_at_call 115; refine (her _).mono ?_; rintro e w1 ⟨rfl, hg1, hy1⟩))
 go_ret
 exact ⟨rfl, gr_trans (gr_alloc _ _ _) hg1, hy1⟩
set_option maxRecDepth 100000 in
set_option maxHeartbeats 1000000 in
theorem made_snd_ok (w : World) (yb xb : Nat) (cv nv tv ov kv : Value) (p : Nat) (nm : List UInt8) (px : Nat) (n : Int) (id last site : Nat)
  (hy : w.heap[yb]? = some (.cells (tyCells cv nv tv ov 0 p) 115 (0, 0)))
  (hx : w.heap[xb]? = some (.cells (exCells Kw.snd.bytes px nm n kv id last site) 82 (0, 0)))
  (r : Nat) (a b : Ty) (hs : (Ty.p r a b).txt.length ≤ 100000) :
  Calls Tryz.prog 144 #[ptr yb, ptr xb, .agg #[.string (bs (Ty.p r a b).txt), .string (bs []), .string (bs [])]] w fun v w' => v = .returned (.string (bs b.txt)) ∧ w.grownBy w' (some yb) ∧ w'.heap[yb]? = some (.cells (tyCells cv nv tv ov 0 p) 115 (0, 0)) := by
 have x0 : w.cell? ⟨xb, 0, none⟩ = some (.string (bs Kw.snd.bytes)) := by rw [blk_cell hx]; rfl
 have hxb := blk_lt hx
 have HY : Hid _ := hy
 have HX : Hid _ := hx
 have q0 : ((bs Kw.snd.bytes).toList == [110, 101, 119]) = false := by rw [bs_beq0]; decide
 have q1 : ((bs Kw.snd.bytes).toList == [112, 97, 105, 114]) = false := by rw [bs_beq0]; decide
 have q2 : ((bs Kw.snd.bytes).toList == [102, 115, 116]) = false := by rw [bs_beq0]; decide
 have q3 : ((bs Kw.snd.bytes).toList == [115, 110, 100]) = true := by rw [bs_beq0]; decide
 have hh := fun w => halves_p r a b w hs
 clear hy hx
 show Calls _ _ #[Value.pointer (some ⟨yb, 0, none⟩), Value.pointer (some ⟨xb, 0, none⟩), _] w _
 go_enter Tryz.func144, Tryz.ntmps144
 go_wp2_with (go_at_call 171; refine (hh _).mono ?_; rintro e w1 ⟨rfl, n1, rfl⟩)
 go_ret
 exact ⟨rfl, made_ok HY.out⟩
set_option maxRecDepth 100000 in
set_option maxHeartbeats 1000000 in
theorem made_snd_no (w : World) (yb xb : Nat) (cv nv tv ov kv : Value) (p : Nat) (nm : List UInt8) (px : Nat) (n : Int) (id last site : Nat) (hne : xb ≠ yb)
  (hy : w.heap[yb]? = some (.cells (tyCells cv nv tv ov 0 p) 115 (0, 0)))
  (hx : w.heap[xb]? = some (.cells (exCells Kw.snd.bytes px nm n kv id last site) 82 (0, 0))) :
  Calls Tryz.prog 144 #[ptr yb, ptr xb, .agg #[.string (bs Ty.n.txt), .string (bs []), .string (bs [])]] w fun v w' => v = .returned (.string (bs [110])) ∧ w.grownBy w' (some yb) ∧ w'.heap[yb]? = some (.cells (tyCells cv nv tv ov 5 px) 115 (0, 0)) := by
 have x0 : w.cell? ⟨xb, 0, none⟩ = some (.string (bs Kw.snd.bytes)) := by rw [blk_cell hx]; rfl
 have hxb := blk_lt hx
 have HY : Hid _ := hy
 have HX : Hid _ := hx
 have q0 : ((bs Kw.snd.bytes).toList == [110, 101, 119]) = false := by rw [bs_beq0]; decide
 have q1 : ((bs Kw.snd.bytes).toList == [112, 97, 105, 114]) = false := by rw [bs_beq0]; decide
 have q2 : ((bs Kw.snd.bytes).toList == [102, 115, 116]) = false := by rw [bs_beq0]; decide
 have q3 : ((bs Kw.snd.bytes).toList == [115, 110, 100]) = true := by rw [bs_beq0]; decide
 have hh := fun w => halves_n w
 have her := fun (o : Obj) => err_any (w.alloc o) yb xb cv nv tv ov kv 0 p 5 _ nm px n id last site hne (blk_alloc o hy) (blk_alloc o hx)
 unfold ptr at her
 clear hy hx
 show Calls _ _ #[Value.pointer (some ⟨yb, 0, none⟩), Value.pointer (some ⟨xb, 0, none⟩), _] w _
 go_enter Tryz.func144, Tryz.ntmps144
 go_wp2_with (first
  | (go_at_call 171; refine (hh _).mono ?_; rintro e w1 ⟨rfl, rfl⟩)
  | (go_at_call 115; refine (her _).mono ?_; rintro e w1 ⟨rfl, hg1, hy1⟩))
 go_ret
 exact ⟨rfl, gr_trans (gr_alloc _ _ _) hg1, hy1⟩
set_option maxRecDepth 100000 in
set_option maxHeartbeats 1000000 in
theorem made_add_ok (w : World) (yb xb : Nat) (cv nv tv ov kv : Value) (p : Nat) (nm : List UInt8) (px : Nat) (n : Int) (id last site : Nat)
  (hy : w.heap[yb]? = some (.cells (tyCells cv nv tv ov 0 p) 115 (0, 0)))
  (hx : w.heap[xb]? = some (.cells (exCells Kw.add.bytes px nm n kv id last site) 82 (0, 0))) :
  Calls Tryz.prog 144 #[ptr yb, ptr xb, .agg #[.string (bs Ty.n.txt), .string (bs Ty.n.txt), .string (bs [])]] w fun v w' => v = .returned (.string (bs [110])) ∧ w.grownBy w' (some yb) ∧ w'.heap[yb]? = some (.cells (tyCells cv nv tv ov 0 p) 115 (0, 0)) := by
 have x0 : w.cell? ⟨xb, 0, none⟩ = some (.string (bs Kw.add.bytes)) := by rw [blk_cell hx]; rfl
 have hxb := blk_lt hx
 have HY : Hid _ := hy
 have HX : Hid _ := hx
 have q0 : ((bs Kw.add.bytes).toList == [110, 101, 119]) = false := by rw [bs_beq0]; decide
 have q1 : ((bs Kw.add.bytes).toList == [112, 97, 105, 114]) = false := by rw [bs_beq0]; decide
 have q2 : ((bs Kw.add.bytes).toList == [102, 115, 116]) = false := by rw [bs_beq0]; decide
 have q3 : ((bs Kw.add.bytes).toList == [115, 110, 100]) = false := by rw [bs_beq0]; decide
 have q4 : ((bs Kw.add.bytes).toList == [105, 102]) = false := by rw [bs_beq0]; decide
 have q5 : ((bs Kw.add.bytes).toList == [108, 111, 111, 112]) = false := by rw [bs_beq0]; decide
 have k0 : ((bs Ty.n.txt).toList == [110]) = true := by rw [bs_beq0]; decide
 have k1 : ((bs Ty.n.txt).toList == [110]) = true := by rw [bs_beq0]; decide
 have hh := fun w => halves_n w
 clear hy hx
 show Calls _ _ #[Value.pointer (some ⟨yb, 0, none⟩), Value.pointer (some ⟨xb, 0, none⟩), _] w _
 go_enter Tryz.func144, Tryz.ntmps144
 go_wp2_with (go_at_call 171; refine (hh _).mono ?_; rintro e w1 ⟨rfl, rfl⟩)
 go_ret
 exact ⟨rfl, made_ok (n := 0) HY.out⟩
set_option maxRecDepth 100000 in
set_option maxHeartbeats 1000000 in
theorem made_add_p (w : World) (yb xb : Nat) (cv nv tv ov kv : Value) (p : Nat) (nm : List UInt8) (px : Nat) (n : Int) (id last site : Nat) (hne : xb ≠ yb)
  (hy : w.heap[yb]? = some (.cells (tyCells cv nv tv ov 0 p) 115 (0, 0)))
  (hx : w.heap[xb]? = some (.cells (exCells Kw.add.bytes px nm n kv id last site) 82 (0, 0)))
  (r : Nat) (a b u : Ty) (hs : (Ty.p r a b).txt.length ≤ 100000) :
  Calls Tryz.prog 144 #[ptr yb, ptr xb, .agg #[.string (bs (Ty.p r a b).txt), .string (bs u.txt), .string (bs [])]] w fun v w' => v = .returned (.string (bs [110])) ∧ w.grownBy w' (some yb) ∧ w'.heap[yb]? = some (.cells (tyCells cv nv tv ov 5 px) 115 (0, 0)) := by
 have x0 : w.cell? ⟨xb, 0, none⟩ = some (.string (bs Kw.add.bytes)) := by rw [blk_cell hx]; rfl
 have hxb := blk_lt hx
 have HY : Hid _ := hy
 have HX : Hid _ := hx
 have q0 : ((bs Kw.add.bytes).toList == [110, 101, 119]) = false := by rw [bs_beq0]; decide
 have q1 : ((bs Kw.add.bytes).toList == [112, 97, 105, 114]) = false := by rw [bs_beq0]; decide
 have q2 : ((bs Kw.add.bytes).toList == [102, 115, 116]) = false := by rw [bs_beq0]; decide
 have q3 : ((bs Kw.add.bytes).toList == [115, 110, 100]) = false := by rw [bs_beq0]; decide
 have q4 : ((bs Kw.add.bytes).toList == [105, 102]) = false := by rw [bs_beq0]; decide
 have q5 : ((bs Kw.add.bytes).toList == [108, 111, 111, 112]) = false := by rw [bs_beq0]; decide
 have k0 : ((bs (Ty.p r a b).txt).toList == [110]) = false := by rw [bs_beq0]; simp [Ty.txt]
 have hh := fun w => halves_p r a b w hs
 have her := fun (o : Obj) (m : Nat) => err_any ((w.alloc o).drewN m) yb xb cv nv tv ov kv 0 p 5 _ nm px n id last site hne (blk_alloc o hy) (blk_alloc o hx)
 unfold ptr at her
 clear hy hx
 show Calls _ _ #[Value.pointer (some ⟨yb, 0, none⟩), Value.pointer (some ⟨xb, 0, none⟩), _] w _
 go_enter Tryz.func144, Tryz.ntmps144
 go_wp2_with (first
  | (go_at_call 171; refine (hh _).mono ?_; rintro e w1 ⟨rfl, n1, rfl⟩)
  | (go_at_call 115; refine (her _ _).mono ?_; rintro e w2 ⟨rfl, hg1, hy1⟩))
 go_ret
 exact ⟨rfl, gr_trans (grew_of (below_box _ _ n1) _) hg1, hy1⟩
set_option maxRecDepth 100000 in
set_option maxHeartbeats 1000000 in
theorem made_add_q (w : World) (yb xb : Nat) (cv nv tv ov kv : Value) (p : Nat) (nm : List UInt8) (px : Nat) (n : Int) (id last site : Nat) (hne : xb ≠ yb)
  (hy : w.heap[yb]? = some (.cells (tyCells cv nv tv ov 0 p) 115 (0, 0)))
  (hx : w.heap[xb]? = some (.cells (exCells Kw.add.bytes px nm n kv id last site) 82 (0, 0)))
  (r : Nat) (a b : Ty) :
  Calls Tryz.prog 144 #[ptr yb, ptr xb, .agg #[.string (bs Ty.n.txt), .string (bs (Ty.p r a b).txt), .string (bs [])]] w fun v w' => v = .returned (.string (bs [110])) ∧ w.grownBy w' (some yb) ∧ w'.heap[yb]? = some (.cells (tyCells cv nv tv ov 5 px) 115 (0, 0)) := by
 have x0 : w.cell? ⟨xb, 0, none⟩ = some (.string (bs Kw.add.bytes)) := by rw [blk_cell hx]; rfl
 have hxb := blk_lt hx
 have HY : Hid _ := hy
 have HX : Hid _ := hx
 have q0 : ((bs Kw.add.bytes).toList == [110, 101, 119]) = false := by rw [bs_beq0]; decide
 have q1 : ((bs Kw.add.bytes).toList == [112, 97, 105, 114]) = false := by rw [bs_beq0]; decide
 have q2 : ((bs Kw.add.bytes).toList == [102, 115, 116]) = false := by rw [bs_beq0]; decide
 have q3 : ((bs Kw.add.bytes).toList == [115, 110, 100]) = false := by rw [bs_beq0]; decide
 have q4 : ((bs Kw.add.bytes).toList == [105, 102]) = false := by rw [bs_beq0]; decide
 have q5 : ((bs Kw.add.bytes).toList == [108, 111, 111, 112]) = false := by rw [bs_beq0]; decide
 have k0 : ((bs Ty.n.txt).toList == [110]) = true := by rw [bs_beq0]; decide
 have k1 : ((bs (Ty.p r a b).txt).toList == [110]) = false := by rw [bs_beq0]; simp [Ty.txt]
 have hh := fun w => halves_n w
 have her := fun (o : Obj) => err_any (w.alloc o) yb xb cv nv tv ov kv 0 p 5 _ nm px n id last site hne (blk_alloc o hy) (blk_alloc o hx)
 unfold ptr at her
 clear hy hx
 show Calls _ _ #[Value.pointer (some ⟨yb, 0, none⟩), Value.pointer (some ⟨xb, 0, none⟩), _] w _
 go_enter Tryz.func144, Tryz.ntmps144
 go_wp2_with (first
  | (go_at_call 171; refine (hh _).mono ?_; rintro e w1 ⟨rfl, rfl⟩)
  | (go_at_call 115; refine (her _).mono ?_; rintro e w2 ⟨rfl, hg1, hy1⟩))
 go_ret
 exact ⟨rfl, gr_trans (grew_of (below_box _ _ 0) _) hg1, hy1⟩
set_option maxRecDepth 100000 in
set_option maxHeartbeats 1000000 in
theorem made_sub_ok (w : World) (yb xb : Nat) (cv nv tv ov kv : Value) (p : Nat) (nm : List UInt8) (px : Nat) (n : Int) (id last site : Nat)
  (hy : w.heap[yb]? = some (.cells (tyCells cv nv tv ov 0 p) 115 (0, 0)))
  (hx : w.heap[xb]? = some (.cells (exCells Kw.sub.bytes px nm n kv id last site) 82 (0, 0))) :
  Calls Tryz.prog 144 #[ptr yb, ptr xb, .agg #[.string (bs Ty.n.txt), .string (bs Ty.n.txt), .string (bs [])]] w fun v w' => v = .returned (.string (bs [110])) ∧ w.grownBy w' (some yb) ∧ w'.heap[yb]? = some (.cells (tyCells cv nv tv ov 0 p) 115 (0, 0)) := by
 have x0 : w.cell? ⟨xb, 0, none⟩ = some (.string (bs Kw.sub.bytes)) := by rw [blk_cell hx]; rfl
 have hxb := blk_lt hx
 have HY : Hid _ := hy
 have HX : Hid _ := hx
 have q0 : ((bs Kw.sub.bytes).toList == [110, 101, 119]) = false := by rw [bs_beq0]; decide
 have q1 : ((bs Kw.sub.bytes).toList == [112, 97, 105, 114]) = false := by rw [bs_beq0]; decide
 have q2 : ((bs Kw.sub.bytes).toList == [102, 115, 116]) = false := by rw [bs_beq0]; decide
 have q3 : ((bs Kw.sub.bytes).toList == [115, 110, 100]) = false := by rw [bs_beq0]; decide
 have q4 : ((bs Kw.sub.bytes).toList == [105, 102]) = false := by rw [bs_beq0]; decide
 have q5 : ((bs Kw.sub.bytes).toList == [108, 111, 111, 112]) = false := by rw [bs_beq0]; decide
 have k0 : ((bs Ty.n.txt).toList == [110]) = true := by rw [bs_beq0]; decide
 have k1 : ((bs Ty.n.txt).toList == [110]) = true := by rw [bs_beq0]; decide
 have hh := fun w => halves_n w
 clear hy hx
 show Calls _ _ #[Value.pointer (some ⟨yb, 0, none⟩), Value.pointer (some ⟨xb, 0, none⟩), _] w _
 go_enter Tryz.func144, Tryz.ntmps144
 go_wp2_with (go_at_call 171; refine (hh _).mono ?_; rintro e w1 ⟨rfl, rfl⟩)
 go_ret
 exact ⟨rfl, made_ok (n := 0) HY.out⟩
set_option maxRecDepth 100000 in
set_option maxHeartbeats 1000000 in
theorem made_sub_p (w : World) (yb xb : Nat) (cv nv tv ov kv : Value) (p : Nat) (nm : List UInt8) (px : Nat) (n : Int) (id last site : Nat) (hne : xb ≠ yb)
  (hy : w.heap[yb]? = some (.cells (tyCells cv nv tv ov 0 p) 115 (0, 0)))
  (hx : w.heap[xb]? = some (.cells (exCells Kw.sub.bytes px nm n kv id last site) 82 (0, 0)))
  (r : Nat) (a b u : Ty) (hs : (Ty.p r a b).txt.length ≤ 100000) :
  Calls Tryz.prog 144 #[ptr yb, ptr xb, .agg #[.string (bs (Ty.p r a b).txt), .string (bs u.txt), .string (bs [])]] w fun v w' => v = .returned (.string (bs [110])) ∧ w.grownBy w' (some yb) ∧ w'.heap[yb]? = some (.cells (tyCells cv nv tv ov 5 px) 115 (0, 0)) := by
 have x0 : w.cell? ⟨xb, 0, none⟩ = some (.string (bs Kw.sub.bytes)) := by rw [blk_cell hx]; rfl
 have hxb := blk_lt hx
 have HY : Hid _ := hy
 have HX : Hid _ := hx
 have q0 : ((bs Kw.sub.bytes).toList == [110, 101, 119]) = false := by rw [bs_beq0]; decide
 have q1 : ((bs Kw.sub.bytes).toList == [112, 97, 105, 114]) = false := by rw [bs_beq0]; decide
 have q2 : ((bs Kw.sub.bytes).toList == [102, 115, 116]) = false := by rw [bs_beq0]; decide
 have q3 : ((bs Kw.sub.bytes).toList == [115, 110, 100]) = false := by rw [bs_beq0]; decide
 have q4 : ((bs Kw.sub.bytes).toList == [105, 102]) = false := by rw [bs_beq0]; decide
 have q5 : ((bs Kw.sub.bytes).toList == [108, 111, 111, 112]) = false := by rw [bs_beq0]; decide
 have k0 : ((bs (Ty.p r a b).txt).toList == [110]) = false := by rw [bs_beq0]; simp [Ty.txt]
 have hh := fun w => halves_p r a b w hs
 have her := fun (o : Obj) (m : Nat) => err_any ((w.alloc o).drewN m) yb xb cv nv tv ov kv 0 p 5 _ nm px n id last site hne (blk_alloc o hy) (blk_alloc o hx)
 unfold ptr at her
 clear hy hx
 show Calls _ _ #[Value.pointer (some ⟨yb, 0, none⟩), Value.pointer (some ⟨xb, 0, none⟩), _] w _
 go_enter Tryz.func144, Tryz.ntmps144
 go_wp2_with (first
  | (go_at_call 171; refine (hh _).mono ?_; rintro e w1 ⟨rfl, n1, rfl⟩)
  | (go_at_call 115; refine (her _ _).mono ?_; rintro e w2 ⟨rfl, hg1, hy1⟩))
 go_ret
 exact ⟨rfl, gr_trans (grew_of (below_box _ _ n1) _) hg1, hy1⟩
set_option maxRecDepth 100000 in
set_option maxHeartbeats 1000000 in
theorem made_sub_q (w : World) (yb xb : Nat) (cv nv tv ov kv : Value) (p : Nat) (nm : List UInt8) (px : Nat) (n : Int) (id last site : Nat) (hne : xb ≠ yb)
  (hy : w.heap[yb]? = some (.cells (tyCells cv nv tv ov 0 p) 115 (0, 0)))
  (hx : w.heap[xb]? = some (.cells (exCells Kw.sub.bytes px nm n kv id last site) 82 (0, 0)))
  (r : Nat) (a b : Ty) :
  Calls Tryz.prog 144 #[ptr yb, ptr xb, .agg #[.string (bs Ty.n.txt), .string (bs (Ty.p r a b).txt), .string (bs [])]] w fun v w' => v = .returned (.string (bs [110])) ∧ w.grownBy w' (some yb) ∧ w'.heap[yb]? = some (.cells (tyCells cv nv tv ov 5 px) 115 (0, 0)) := by
 have x0 : w.cell? ⟨xb, 0, none⟩ = some (.string (bs Kw.sub.bytes)) := by rw [blk_cell hx]; rfl
 have hxb := blk_lt hx
 have HY : Hid _ := hy
 have HX : Hid _ := hx
 have q0 : ((bs Kw.sub.bytes).toList == [110, 101, 119]) = false := by rw [bs_beq0]; decide
 have q1 : ((bs Kw.sub.bytes).toList == [112, 97, 105, 114]) = false := by rw [bs_beq0]; decide
 have q2 : ((bs Kw.sub.bytes).toList == [102, 115, 116]) = false := by rw [bs_beq0]; decide
 have q3 : ((bs Kw.sub.bytes).toList == [115, 110, 100]) = false := by rw [bs_beq0]; decide
 have q4 : ((bs Kw.sub.bytes).toList == [105, 102]) = false := by rw [bs_beq0]; decide
 have q5 : ((bs Kw.sub.bytes).toList == [108, 111, 111, 112]) = false := by rw [bs_beq0]; decide
 have k0 : ((bs Ty.n.txt).toList == [110]) = true := by rw [bs_beq0]; decide
 have k1 : ((bs (Ty.p r a b).txt).toList == [110]) = false := by rw [bs_beq0]; simp [Ty.txt]
 have hh := fun w => halves_n w
 have her := fun (o : Obj) => err_any (w.alloc o) yb xb cv nv tv ov kv 0 p 5 _ nm px n id last site hne (blk_alloc o hy) (blk_alloc o hx)
 unfold ptr at her
 clear hy hx
 show Calls _ _ #[Value.pointer (some ⟨yb, 0, none⟩), Value.pointer (some ⟨xb, 0, none⟩), _] w _
 go_enter Tryz.func144, Tryz.ntmps144
 go_wp2_with (first
  | (go_at_call 171; refine (hh _).mono ?_; rintro e w1 ⟨rfl, rfl⟩)
  | (go_at_call 115; refine (her _).mono ?_; rintro e w2 ⟨rfl, hg1, hy1⟩))
 go_ret
 exact ⟨rfl, gr_trans (grew_of (below_box _ _ 0) _) hg1, hy1⟩
set_option maxRecDepth 100000 in
set_option maxHeartbeats 1000000 in
theorem made_less_ok (w : World) (yb xb : Nat) (cv nv tv ov kv : Value) (p : Nat) (nm : List UInt8) (px : Nat) (n : Int) (id last site : Nat)
  (hy : w.heap[yb]? = some (.cells (tyCells cv nv tv ov 0 p) 115 (0, 0)))
  (hx : w.heap[xb]? = some (.cells (exCells Kw.less.bytes px nm n kv id last site) 82 (0, 0))) :
  Calls Tryz.prog 144 #[ptr yb, ptr xb, .agg #[.string (bs Ty.n.txt), .string (bs Ty.n.txt), .string (bs [])]] w fun v w' => v = .returned (.string (bs [110])) ∧ w.grownBy w' (some yb) ∧ w'.heap[yb]? = some (.cells (tyCells cv nv tv ov 0 p) 115 (0, 0)) := by
 have x0 : w.cell? ⟨xb, 0, none⟩ = some (.string (bs Kw.less.bytes)) := by rw [blk_cell hx]; rfl
 have hxb := blk_lt hx
 have HY : Hid _ := hy
 have HX : Hid _ := hx
 have q0 : ((bs Kw.less.bytes).toList == [110, 101, 119]) = false := by rw [bs_beq0]; decide
 have q1 : ((bs Kw.less.bytes).toList == [112, 97, 105, 114]) = false := by rw [bs_beq0]; decide
 have q2 : ((bs Kw.less.bytes).toList == [102, 115, 116]) = false := by rw [bs_beq0]; decide
 have q3 : ((bs Kw.less.bytes).toList == [115, 110, 100]) = false := by rw [bs_beq0]; decide
 have q4 : ((bs Kw.less.bytes).toList == [105, 102]) = false := by rw [bs_beq0]; decide
 have q5 : ((bs Kw.less.bytes).toList == [108, 111, 111, 112]) = false := by rw [bs_beq0]; decide
 have k0 : ((bs Ty.n.txt).toList == [110]) = true := by rw [bs_beq0]; decide
 have k1 : ((bs Ty.n.txt).toList == [110]) = true := by rw [bs_beq0]; decide
 have hh := fun w => halves_n w
 clear hy hx
 show Calls _ _ #[Value.pointer (some ⟨yb, 0, none⟩), Value.pointer (some ⟨xb, 0, none⟩), _] w _
 go_enter Tryz.func144, Tryz.ntmps144
 go_wp2_with (go_at_call 171; refine (hh _).mono ?_; rintro e w1 ⟨rfl, rfl⟩)
 go_ret
 exact ⟨rfl, made_ok (n := 0) HY.out⟩
set_option maxRecDepth 100000 in
set_option maxHeartbeats 1000000 in
theorem made_less_p (w : World) (yb xb : Nat) (cv nv tv ov kv : Value) (p : Nat) (nm : List UInt8) (px : Nat) (n : Int) (id last site : Nat) (hne : xb ≠ yb)
  (hy : w.heap[yb]? = some (.cells (tyCells cv nv tv ov 0 p) 115 (0, 0)))
  (hx : w.heap[xb]? = some (.cells (exCells Kw.less.bytes px nm n kv id last site) 82 (0, 0)))
  (r : Nat) (a b u : Ty) (hs : (Ty.p r a b).txt.length ≤ 100000) :
  Calls Tryz.prog 144 #[ptr yb, ptr xb, .agg #[.string (bs (Ty.p r a b).txt), .string (bs u.txt), .string (bs [])]] w fun v w' => v = .returned (.string (bs [110])) ∧ w.grownBy w' (some yb) ∧ w'.heap[yb]? = some (.cells (tyCells cv nv tv ov 5 px) 115 (0, 0)) := by
 have x0 : w.cell? ⟨xb, 0, none⟩ = some (.string (bs Kw.less.bytes)) := by rw [blk_cell hx]; rfl
 have hxb := blk_lt hx
 have HY : Hid _ := hy
 have HX : Hid _ := hx
 have q0 : ((bs Kw.less.bytes).toList == [110, 101, 119]) = false := by rw [bs_beq0]; decide
 have q1 : ((bs Kw.less.bytes).toList == [112, 97, 105, 114]) = false := by rw [bs_beq0]; decide
 have q2 : ((bs Kw.less.bytes).toList == [102, 115, 116]) = false := by rw [bs_beq0]; decide
 have q3 : ((bs Kw.less.bytes).toList == [115, 110, 100]) = false := by rw [bs_beq0]; decide
 have q4 : ((bs Kw.less.bytes).toList == [105, 102]) = false := by rw [bs_beq0]; decide
 have q5 : ((bs Kw.less.bytes).toList == [108, 111, 111, 112]) = false := by rw [bs_beq0]; decide
 have k0 : ((bs (Ty.p r a b).txt).toList == [110]) = false := by rw [bs_beq0]; simp [Ty.txt]
 have hh := fun w => halves_p r a b w hs
 have her := fun (o : Obj) (m : Nat) => err_any ((w.alloc o).drewN m) yb xb cv nv tv ov kv 0 p 5 _ nm px n id last site hne (blk_alloc o hy) (blk_alloc o hx)
 unfold ptr at her
 clear hy hx
 show Calls _ _ #[Value.pointer (some ⟨yb, 0, none⟩), Value.pointer (some ⟨xb, 0, none⟩), _] w _
 go_enter Tryz.func144, Tryz.ntmps144
 go_wp2_with (first
  | (go_at_call 171; refine (hh _).mono ?_; rintro e w1 ⟨rfl, n1, rfl⟩)
  | (go_at_call 115; refine (her _ _).mono ?_; rintro e w2 ⟨rfl, hg1, hy1⟩))
 go_ret
 exact ⟨rfl, gr_trans (grew_of (below_box _ _ n1) _) hg1, hy1⟩
set_option maxRecDepth 100000 in
set_option maxHeartbeats 1000000 in
theorem made_less_q (w : World) (yb xb : Nat) (cv nv tv ov kv : Value) (p : Nat) (nm : List UInt8) (px : Nat) (n : Int) (id last site : Nat) (hne : xb ≠ yb)
  (hy : w.heap[yb]? = some (.cells (tyCells cv nv tv ov 0 p) 115 (0, 0)))
  (hx : w.heap[xb]? = some (.cells (exCells Kw.less.bytes px nm n kv id last site) 82 (0, 0)))
  (r : Nat) (a b : Ty) :
  Calls Tryz.prog 144 #[ptr yb, ptr xb, .agg #[.string (bs Ty.n.txt), .string (bs (Ty.p r a b).txt), .string (bs [])]] w fun v w' => v = .returned (.string (bs [110])) ∧ w.grownBy w' (some yb) ∧ w'.heap[yb]? = some (.cells (tyCells cv nv tv ov 5 px) 115 (0, 0)) := by
 have x0 : w.cell? ⟨xb, 0, none⟩ = some (.string (bs Kw.less.bytes)) := by rw [blk_cell hx]; rfl
 have hxb := blk_lt hx
 have HY : Hid _ := hy
 have HX : Hid _ := hx
 have q0 : ((bs Kw.less.bytes).toList == [110, 101, 119]) = false := by rw [bs_beq0]; decide
 have q1 : ((bs Kw.less.bytes).toList == [112, 97, 105, 114]) = false := by rw [bs_beq0]; decide
 have q2 : ((bs Kw.less.bytes).toList == [102, 115, 116]) = false := by rw [bs_beq0]; decide
 have q3 : ((bs Kw.less.bytes).toList == [115, 110, 100]) = false := by rw [bs_beq0]; decide
 have q4 : ((bs Kw.less.bytes).toList == [105, 102]) = false := by rw [bs_beq0]; decide
 have q5 : ((bs Kw.less.bytes).toList == [108, 111, 111, 112]) = false := by rw [bs_beq0]; decide
 have k0 : ((bs Ty.n.txt).toList == [110]) = true := by rw [bs_beq0]; decide
 have k1 : ((bs (Ty.p r a b).txt).toList == [110]) = false := by rw [bs_beq0]; simp [Ty.txt]
 have hh := fun w => halves_n w
 have her := fun (o : Obj) => err_any (w.alloc o) yb xb cv nv tv ov kv 0 p 5 _ nm px n id last site hne (blk_alloc o hy) (blk_alloc o hx)
 unfold ptr at her
 clear hy hx
 show Calls _ _ #[Value.pointer (some ⟨yb, 0, none⟩), Value.pointer (some ⟨xb, 0, none⟩), _] w _
 go_enter Tryz.func144, Tryz.ntmps144
 go_wp2_with (first
  | (go_at_call 171; refine (hh _).mono ?_; rintro e w1 ⟨rfl, rfl⟩)
  | (go_at_call 115; refine (her _).mono ?_; rintro e w2 ⟨rfl, hg1, hy1⟩))
 go_ret
 exact ⟨rfl, gr_trans (grew_of (below_box _ _ 0) _) hg1, hy1⟩
theorem halves_t (t : Ty) (w : World) (hs : t.txt.length ≤ 100000) : Calls Tryz.prog 171 #[.string (bs t.txt)] w fun e w' => ∃ x y c, e = .returned (.tuple #[.string x, .string y, .bool c]) ∧ ∃ n, w' = w.drewN n := by
 cases t with
 | n => exact (halves_n w).mono (by rintro e w' ⟨rfl, rfl⟩; exact ⟨_, _, _, rfl, 0, rfl⟩)
 | p r a b => exact (halves_p r a b w hs).mono (by rintro e w' ⟨rfl, n, rfl⟩; exact ⟨_, _, _, rfl, n, rfl⟩)
set_option maxRecDepth 100000 in
set_option maxHeartbeats 1000000 in
theorem made_new (w : World) (yb xb : Nat) (cv nv tv ov kv : Value) (p : Nat) (nm : List UInt8) (px : Nat) (n : Int) (id last site : Nat)
  (hy : w.heap[yb]? = some (.cells (tyCells cv nv tv ov 0 p) 115 (0, 0)))
  (hx : w.heap[xb]? = some (.cells (exCells Kw.new.bytes px nm n kv id last site) 82 (0, 0)))
  (a : Ty) (hs : a.txt.length ≤ 100000) :
  Calls Tryz.prog 144 #[ptr yb, ptr xb, .agg #[.string (bs a.txt), .string (bs []), .string (bs [])]] w fun v w' => v = .returned (.string (bs a.txt)) ∧ w.grownBy w' (some yb) ∧ w'.heap[yb]? = some (.cells (tyCells cv nv tv ov 0 p) 115 (0, 0)) := by
 have x0 : w.cell? ⟨xb, 0, none⟩ = some (.string (bs Kw.new.bytes)) := by rw [blk_cell hx]; rfl
 have hxb := blk_lt hx
 have hyb := blk_lt hy
 have HY : Hid _ := hy
 have HX : Hid _ := hx
 have q0 : ((bs Kw.new.bytes).toList == [110, 101, 119]) = true := by rw [bs_beq0]; decide
 have hh := fun w => halves_t a w hs
 clear hy hx
 show Calls _ _ #[Value.pointer (some ⟨yb, 0, none⟩), Value.pointer (some ⟨xb, 0, none⟩), _] w _
 go_enter Tryz.func144, Tryz.ntmps144
 go_wp2_with (go_at_call 171; refine (hh _).mono ?_; rintro e w1 ⟨_, _, _, rfl, n1, rfl⟩)
 go_ret
 exact ⟨rfl, made_ok HY.out⟩
set_option maxRecDepth 100000 in
set_option maxHeartbeats 1000000 in
theorem made_pair (w : World) (gc cl cc yb xb : Nat) (nv tv ov kv : Value) (p : Nat) (nm : List UInt8) (px : Nat) (n : Int) (id last site : Nat)
  (hy : w.heap[yb]? = some (.cells (tyCells (.slice (some ⟨gc, 0, none⟩) cl cc) nv tv ov 0 p) 115 (0, 0)))
  (hx : w.heap[xb]? = some (.cells (exCells Kw.pair.bytes px nm n kv id last site) 82 (0, 0)))
  (r : Nat) (a b : Ty) (hr : r < 1000) (hit : ∀ w', Below w.heap.size w w' → Calls Tryz.prog 49 #[.int .i64 r] w' fun e w2 => e = .returned (.string (bs (decDigits r))) ∧ Below w'.heap.size w' w2) (hs : a.txt.length + b.txt.length ≤ 90000) (hsl : site < cl) (_hcl : cl ≤ 9000) (hcell : w.cell? ⟨gc, site, none⟩ = some (.int .i64 r)) :
  Calls Tryz.prog 144 #[ptr yb, ptr xb, .agg #[.string (bs a.txt), .string (bs b.txt), .string (bs [])]] w fun v w' => v = .returned (.string (bs (Ty.p r a b).txt)) ∧ w.grownBy w' (some yb) ∧ w'.heap[yb]? = some (.cells (tyCells (.slice (some ⟨gc, 0, none⟩) cl cc) nv tv ov 0 p) 115 (0, 0)) := by
 have x0 : w.cell? ⟨xb, 0, none⟩ = some (.string (bs Kw.pair.bytes)) := by rw [blk_cell hx]; rfl
 have hxb := blk_lt hx
 have hyb := blk_lt hy
 have HY : Hid _ := hy
 have HX : Hid _ := hx
 have q0 : ((bs Kw.pair.bytes).toList == [110, 101, 119]) = false := by rw [bs_beq0]; decide
 have q1 : ((bs Kw.pair.bytes).toList == [112, 97, 105, 114]) = true := by rw [bs_beq0]; decide
 have hh := fun w => halves_t a w (by omega)
 have hpo := fun w' hb => pairOf_any r a b w' hr (hit w' hb) hs
 have x7 : w.cell? ⟨xb, 7, none⟩ = some (.int .i64 site) := by rw [blk_cell hx]; rfl
 have y0 : w.cell? ⟨yb, 0, none⟩ = some (.slice (some ⟨gc, 0, none⟩) cl cc) := by rw [blk_cell hy]; rfl
 have hgc : gc < w.heap.size := World.block_lt_of_cell? _ _ hcell
 clear hy hx
 show Calls _ _ #[Value.pointer (some ⟨yb, 0, none⟩), Value.pointer (some ⟨xb, 0, none⟩), _] w _
 go_enter Tryz.func144, Tryz.ntmps144
 go_wp2_with (go_at_call 171; refine (hh _).mono ?_; rintro e w1 ⟨_, _, _, rfl, n1, hw1⟩; have hcw : ∀ ad, w1.cell? ad = (w.alloc (Obj.cells #[Value.string (bs a.txt), Value.string (bs b.txt), Value.string (bs [])] 139)).cell? ad := (fun ad => by rw [hw1]; rfl); have HW1 : Hid (w1 = (w.alloc (Obj.cells #[Value.string (bs a.txt), Value.string (bs b.txt), Value.string (bs [])] 139)).drewN n1) := hw1; clear hw1)
 have hb1 : Below w.heap.size w w1 := by rw [HW1.out]; exact below_box w _ n1
 have hw1s : w.heap.size < w1.heap.size := by rw [HW1.out]; simp [World.drewN]
 have HS : Hid (∀ w', Below w1.heap.size w1 w' → w'.cell? ⟨yb, 0, none⟩ = some (.slice (some ⟨gc, 0, none⟩) cl cc) ∧ w'.cell? ⟨xb, 7, none⟩ = some (.int .i64 site) ∧ w'.cell? ⟨gc, site, none⟩ = some (.int .i64 r) ∧ w'.cell? ⟨w.heap.size, 0, none⟩ = some (.string (bs a.txt)) ∧ w'.cell? ⟨w.heap.size, 1, none⟩ = some (.string (bs b.txt))) := by
  intro w' hb
  refine ⟨?_, ?_, ?_, ?_, ?_⟩
  ·rw [hb.cell (p := ⟨yb, 0, none⟩) (by show yb < _; omega), hb1.cell (p := ⟨yb, 0, none⟩) hyb]; exact y0
  ·rw [hb.cell (p := ⟨xb, 7, none⟩) (by show xb < _; omega), hb1.cell (p := ⟨xb, 7, none⟩) hxb]; exact x7
  ·rw [hb.cell (p := ⟨gc, site, none⟩) (by show gc < _; omega), hb1.cell (p := ⟨gc, site, none⟩) hgc]; exact hcell
  ·rw [hb.cell (p := ⟨w.heap.size, 0, none⟩) (by show w.heap.size < _; omega), hcw, blk_cell (blk_new _ _)]; rfl
  ·rw [hb.cell (p := ⟨w.heap.size, 1, none⟩) (by show w.heap.size < _; omega), hcw, blk_cell (blk_new _ _)]; rfl
 have HB1 : Hid _ := hb1
 have HPO : Hid _ := hpo
 clear hb1 HW1 hpo hcw x7 y0 hcell x0
 go_region_held3 (fun w' => w'.cell? ⟨yb, 0, none⟩ = some (.slice (some ⟨gc, 0, none⟩) cl cc) ∧ w'.cell? ⟨xb, 7, none⟩ = some (.int .i64 site) ∧ w'.cell? ⟨gc, site, none⟩ = some (.int .i64 r) ∧ w'.cell? ⟨w.heap.size, 0, none⟩ = some (.string (bs a.txt)) ∧ w'.cell? ⟨w.heap.size, 1, none⟩ = some (.string (bs b.txt))) (first | exact HS.out _ ⟨rfl, rfl, rfl, Nat.le_refl _, fun _ _ => rfl⟩ | exact HS.out _ ⟨hb3.os, hb3.tape, hb3.output, hb3.size, fun k hk => hb3.block k hk⟩) (first | (go_at_call 172; refine (HPO.out _ (HB1.out.trans ?_)).mono ?_; exact ⟨rfl, rfl, rfl, Nat.le_refl _, fun _ _ => rfl⟩; rintro e w3 ⟨rfl, hb3⟩))
 all_goals
  have hB : Below w.heap.size w w3 := HB1.out.trans ((⟨hb3.os, hb3.tape, hb3.output, hb3.size, fun k hk => hb3.block k hk⟩ : Below w1.heap.size w1 w3).mono HB1.out.size)
  go_wp2
  go_ret
  exact ⟨rfl, grew_of hB _, by rw [hB.block yb hyb]; exact HY.out⟩
set_option maxRecDepth 100000 in
set_option maxHeartbeats 1000000 in
theorem made_if__ok (w : World) (yb xb : Nat) (cv nv tv ov kv : Value) (p : Nat) (nm : List UInt8) (px : Nat) (n : Int) (id last site : Nat)
  (hy : w.heap[yb]? = some (.cells (tyCells cv nv tv ov 0 p) 115 (0, 0)))
  (hx : w.heap[xb]? = some (.cells (exCells Kw.if_.bytes px nm n kv id last site) 82 (0, 0)))
  (b c : Ty) (hb : b.txt.length ≤ 100000) (hc : c.txt.length ≤ 100000) (heq : b.bare = c.bare) :
  Calls Tryz.prog 144 #[ptr yb, ptr xb, .agg #[.string (bs Ty.n.txt), .string (bs b.txt), .string (bs c.txt)]] w fun v w' => v = .returned (.string (bs b.txt)) ∧ w.grownBy w' (some yb) ∧ w'.heap[yb]? = some (.cells (tyCells cv nv tv ov 0 p) 115 (0, 0)) := by
 have x0 : w.cell? ⟨xb, 0, none⟩ = some (.string (bs Kw.if_.bytes)) := by rw [blk_cell hx]; rfl
 have hxb := blk_lt hx
 have hyb := blk_lt hy
 have HY : Hid _ := hy
 have HX : Hid _ := hx
 have q0 : ((bs Kw.if_.bytes).toList == [110, 101, 119]) = false := by rw [bs_beq0]; decide
 have q1 : ((bs Kw.if_.bytes).toList == [112, 97, 105, 114]) = false := by rw [bs_beq0]; decide
 have q2 : ((bs Kw.if_.bytes).toList == [102, 115, 116]) = false := by rw [bs_beq0]; decide
 have q3 : ((bs Kw.if_.bytes).toList == [115, 110, 100]) = false := by rw [bs_beq0]; decide
 have q4 : ((bs Kw.if_.bytes).toList == [105, 102]) = true := by rw [bs_beq0]; decide
 have hh := fun w => halves_n w
 have hpb := fun w => plain_any b w hb
 have hpc := fun w => plain_any c w hc
 have k0 : ((bs Ty.n.txt).toList == [110]) = true := by rw [bs_beq0]; decide
 have ke : ((bs b.plain).toList == (bs c.plain).toList) = true := by rw [(plain_inj b c).2 heq]; simp
 clear hy hx heq
 show Calls _ _ #[Value.pointer (some ⟨yb, 0, none⟩), Value.pointer (some ⟨xb, 0, none⟩), _] w _
 go_enter Tryz.func144, Tryz.ntmps144
 go_wp2_with (go_at_call 171; refine (hh _).mono ?_; rintro e w1 ⟨rfl, rfl⟩)
 go_quiet (first | (go_at_call_of 173 (Value.string (bs b.txt)); exact Calls.quiet_of (hpb _)) | (go_at_call_of 173 (Value.string (bs c.txt)); exact Calls.quiet_of (hpc _)))
 go_wp2
 go_ret
 exact ⟨rfl, made_ok HY.out⟩
set_option maxRecDepth 100000 in
set_option maxHeartbeats 1000000 in
theorem made_if__no (w : World) (yb xb : Nat) (cv nv tv ov kv : Value) (p : Nat) (nm : List UInt8) (px : Nat) (n : Int) (id last site : Nat) (hne : xb ≠ yb)
  (hy : w.heap[yb]? = some (.cells (tyCells cv nv tv ov 0 p) 115 (0, 0)))
  (hx : w.heap[xb]? = some (.cells (exCells Kw.if_.bytes px nm n kv id last site) 82 (0, 0)))
  (b c : Ty) (hb : b.txt.length ≤ 100000) (hc : c.txt.length ≤ 100000) (heq : ¬ b.bare = c.bare) :
  Calls Tryz.prog 144 #[ptr yb, ptr xb, .agg #[.string (bs Ty.n.txt), .string (bs b.txt), .string (bs c.txt)]] w fun v w' => v = .returned (.string (bs [110])) ∧ w.grownBy w' (some yb) ∧ w'.heap[yb]? = some (.cells (tyCells cv nv tv ov 5 px) 115 (0, 0)) := by
 have x0 : w.cell? ⟨xb, 0, none⟩ = some (.string (bs Kw.if_.bytes)) := by rw [blk_cell hx]; rfl
 have hxb := blk_lt hx
 have hyb := blk_lt hy
 have HY : Hid _ := hy
 have HX : Hid _ := hx
 have q0 : ((bs Kw.if_.bytes).toList == [110, 101, 119]) = false := by rw [bs_beq0]; decide
 have q1 : ((bs Kw.if_.bytes).toList == [112, 97, 105, 114]) = false := by rw [bs_beq0]; decide
 have q2 : ((bs Kw.if_.bytes).toList == [102, 115, 116]) = false := by rw [bs_beq0]; decide
 have q3 : ((bs Kw.if_.bytes).toList == [115, 110, 100]) = false := by rw [bs_beq0]; decide
 have q4 : ((bs Kw.if_.bytes).toList == [105, 102]) = true := by rw [bs_beq0]; decide
 have hh := fun w => halves_n w
 have hpb := fun w => plain_any b w hb
 have hpc := fun w => plain_any c w hc
 have k0 : ((bs Ty.n.txt).toList == [110]) = true := by rw [bs_beq0]; decide
 have ke : ((bs b.plain).toList == (bs c.plain).toList) = false := by
  rw [Lib.toList_data, Lib.toList_data, bs_toList, bs_toList, beq_eq_false_iff_ne]; exact fun h => heq ((plain_inj b c).1 h)
 have her := fun (o : Obj) (m : Nat) => err_any ((w.alloc o).drewN m) yb xb cv nv tv ov kv 0 p 5 _ nm px n id last site hne (blk_alloc o hy) (blk_alloc o hx)
 unfold ptr at her
 clear hy hx heq
 show Calls _ _ #[Value.pointer (some ⟨yb, 0, none⟩), Value.pointer (some ⟨xb, 0, none⟩), _] w _
 go_enter Tryz.func144, Tryz.ntmps144
 go_wp2_with (go_at_call 171; refine (hh _).mono ?_; rintro e w1 ⟨rfl, rfl⟩)
 go_quiet (first | (go_at_call_of 173 (Value.string (bs b.txt)); exact Calls.quiet_of (hpb _)) | (go_at_call_of 173 (Value.string (bs c.txt)); exact Calls.quiet_of (hpc _)))
 go_wp2_with (go_at_call 115; refine (her _ _).mono ?_; rintro e w2 ⟨rfl, hg1, hy1⟩)
 go_ret
 exact ⟨rfl, gr_trans (grew_of (below_box _ _ _) _) hg1, hy1⟩
set_option maxRecDepth 100000 in
set_option maxHeartbeats 1000000 in
theorem made_if__p (w : World) (yb xb : Nat) (cv nv tv ov kv : Value) (p : Nat) (nm : List UInt8) (px : Nat) (n : Int) (id last site : Nat) (hne : xb ≠ yb)
  (hy : w.heap[yb]? = some (.cells (tyCells cv nv tv ov 0 p) 115 (0, 0)))
  (hx : w.heap[xb]? = some (.cells (exCells Kw.if_.bytes px nm n kv id last site) 82 (0, 0)))
  (r : Nat) (a a' : Ty) (hs : (Ty.p r a a').txt.length ≤ 100000) (b c : ByteArray) :
  Calls Tryz.prog 144 #[ptr yb, ptr xb, .agg #[.string (bs (Ty.p r a a').txt), .string b, .string c]] w fun v w' => v = .returned (.string (bs [110])) ∧ w.grownBy w' (some yb) ∧ w'.heap[yb]? = some (.cells (tyCells cv nv tv ov 5 px) 115 (0, 0)) := by
 have x0 : w.cell? ⟨xb, 0, none⟩ = some (.string (bs Kw.if_.bytes)) := by rw [blk_cell hx]; rfl
 have hxb := blk_lt hx
 have hyb := blk_lt hy
 have HY : Hid _ := hy
 have HX : Hid _ := hx
 have q0 : ((bs Kw.if_.bytes).toList == [110, 101, 119]) = false := by rw [bs_beq0]; decide
 have q1 : ((bs Kw.if_.bytes).toList == [112, 97, 105, 114]) = false := by rw [bs_beq0]; decide
 have q2 : ((bs Kw.if_.bytes).toList == [102, 115, 116]) = false := by rw [bs_beq0]; decide
 have q3 : ((bs Kw.if_.bytes).toList == [115, 110, 100]) = false := by rw [bs_beq0]; decide
 have q4 : ((bs Kw.if_.bytes).toList == [105, 102]) = true := by rw [bs_beq0]; decide
 have hh := fun w => halves_p r a a' w hs
 have k0 : ((bs (Ty.p r a a').txt).toList == [110]) = false := by rw [bs_beq0]; simp [Ty.txt]
 have her := fun (o : Obj) (m : Nat) => err_any ((w.alloc o).drewN m) yb xb cv nv tv ov kv 0 p 5 _ nm px n id last site hne (blk_alloc o hy) (blk_alloc o hx)
 unfold ptr at her
 clear hy hx
 show Calls _ _ #[Value.pointer (some ⟨yb, 0, none⟩), Value.pointer (some ⟨xb, 0, none⟩), _] w _
 go_enter Tryz.func144, Tryz.ntmps144
 go_wp2_with (go_at_call 171; refine (hh _).mono ?_; rintro e w1 ⟨rfl, n1, rfl⟩)
 go_quiet (fail)
 go_wp2_with (go_at_call 115; refine (her _ _).mono ?_; rintro e w2 ⟨rfl, hg1, hy1⟩)
 go_ret
 exact ⟨rfl, gr_trans (grew_of (below_box _ _ _) _) hg1, hy1⟩
set_option maxRecDepth 100000 in
set_option maxHeartbeats 1000000 in
theorem made_loop_ok (w : World) (yb xb : Nat) (cv nv tv ov kv : Value) (p : Nat) (nm : List UInt8) (px : Nat) (n : Int) (id last site : Nat)
  (hy : w.heap[yb]? = some (.cells (tyCells cv nv tv ov 0 p) 115 (0, 0)))
  (hx : w.heap[xb]? = some (.cells (exCells Kw.loop.bytes px nm n kv id last site) 82 (0, 0)))
  (b c : Ty) (hb : b.txt.length ≤ 100000) (hc : c.txt.length ≤ 100000) (heq : b.bare = c.bare) :
  Calls Tryz.prog 144 #[ptr yb, ptr xb, .agg #[.string (bs Ty.n.txt), .string (bs b.txt), .string (bs c.txt)]] w fun v w' => v = .returned (.string (bs b.txt)) ∧ w.grownBy w' (some yb) ∧ w'.heap[yb]? = some (.cells (tyCells cv nv tv ov 0 p) 115 (0, 0)) := by
 have x0 : w.cell? ⟨xb, 0, none⟩ = some (.string (bs Kw.loop.bytes)) := by rw [blk_cell hx]; rfl
 have hxb := blk_lt hx
 have hyb := blk_lt hy
 have HY : Hid _ := hy
 have HX : Hid _ := hx
 have q0 : ((bs Kw.loop.bytes).toList == [110, 101, 119]) = false := by rw [bs_beq0]; decide
 have q1 : ((bs Kw.loop.bytes).toList == [112, 97, 105, 114]) = false := by rw [bs_beq0]; decide
 have q2 : ((bs Kw.loop.bytes).toList == [102, 115, 116]) = false := by rw [bs_beq0]; decide
 have q3 : ((bs Kw.loop.bytes).toList == [115, 110, 100]) = false := by rw [bs_beq0]; decide
 have q4 : ((bs Kw.loop.bytes).toList == [105, 102]) = false := by rw [bs_beq0]; decide
 have q5 : ((bs Kw.loop.bytes).toList == [108, 111, 111, 112]) = true := by rw [bs_beq0]; decide
 have hh := fun w => halves_n w
 have hpb := fun w => plain_any b w hb
 have hpc := fun w => plain_any c w hc
 have k0 : ((bs Ty.n.txt).toList == [110]) = true := by rw [bs_beq0]; decide
 have ke : ((bs b.plain).toList == (bs c.plain).toList) = true := by rw [(plain_inj b c).2 heq]; simp
 clear hy hx heq
 show Calls _ _ #[Value.pointer (some ⟨yb, 0, none⟩), Value.pointer (some ⟨xb, 0, none⟩), _] w _
 go_enter Tryz.func144, Tryz.ntmps144
 go_wp2_with (go_at_call 171; refine (hh _).mono ?_; rintro e w1 ⟨rfl, rfl⟩)
 go_quiet (first | (go_at_call_of 173 (Value.string (bs b.txt)); exact Calls.quiet_of (hpb _)) | (go_at_call_of 173 (Value.string (bs c.txt)); exact Calls.quiet_of (hpc _)))
 go_wp2
 go_ret
 exact ⟨rfl, made_ok HY.out⟩
set_option maxRecDepth 100000 in
set_option maxHeartbeats 1000000 in
theorem made_loop_no (w : World) (yb xb : Nat) (cv nv tv ov kv : Value) (p : Nat) (nm : List UInt8) (px : Nat) (n : Int) (id last site : Nat) (hne : xb ≠ yb)
  (hy : w.heap[yb]? = some (.cells (tyCells cv nv tv ov 0 p) 115 (0, 0)))
  (hx : w.heap[xb]? = some (.cells (exCells Kw.loop.bytes px nm n kv id last site) 82 (0, 0)))
  (b c : Ty) (hb : b.txt.length ≤ 100000) (hc : c.txt.length ≤ 100000) (heq : ¬ b.bare = c.bare) :
  Calls Tryz.prog 144 #[ptr yb, ptr xb, .agg #[.string (bs Ty.n.txt), .string (bs b.txt), .string (bs c.txt)]] w fun v w' => v = .returned (.string (bs [110])) ∧ w.grownBy w' (some yb) ∧ w'.heap[yb]? = some (.cells (tyCells cv nv tv ov 5 px) 115 (0, 0)) := by
 have x0 : w.cell? ⟨xb, 0, none⟩ = some (.string (bs Kw.loop.bytes)) := by rw [blk_cell hx]; rfl
 have hxb := blk_lt hx
 have hyb := blk_lt hy
 have HY : Hid _ := hy
 have HX : Hid _ := hx
 have q0 : ((bs Kw.loop.bytes).toList == [110, 101, 119]) = false := by rw [bs_beq0]; decide
 have q1 : ((bs Kw.loop.bytes).toList == [112, 97, 105, 114]) = false := by rw [bs_beq0]; decide
 have q2 : ((bs Kw.loop.bytes).toList == [102, 115, 116]) = false := by rw [bs_beq0]; decide
 have q3 : ((bs Kw.loop.bytes).toList == [115, 110, 100]) = false := by rw [bs_beq0]; decide
 have q4 : ((bs Kw.loop.bytes).toList == [105, 102]) = false := by rw [bs_beq0]; decide
 have q5 : ((bs Kw.loop.bytes).toList == [108, 111, 111, 112]) = true := by rw [bs_beq0]; decide
 have hh := fun w => halves_n w
 have hpb := fun w => plain_any b w hb
 have hpc := fun w => plain_any c w hc
 have k0 : ((bs Ty.n.txt).toList == [110]) = true := by rw [bs_beq0]; decide
 have ke : ((bs b.plain).toList == (bs c.plain).toList) = false := by
  rw [Lib.toList_data, Lib.toList_data, bs_toList, bs_toList, beq_eq_false_iff_ne]; exact fun h => heq ((plain_inj b c).1 h)
 have her := fun (o : Obj) (m : Nat) => err_any ((w.alloc o).drewN m) yb xb cv nv tv ov kv 0 p 5 _ nm px n id last site hne (blk_alloc o hy) (blk_alloc o hx)
 unfold ptr at her
 clear hy hx heq
 show Calls _ _ #[Value.pointer (some ⟨yb, 0, none⟩), Value.pointer (some ⟨xb, 0, none⟩), _] w _
 go_enter Tryz.func144, Tryz.ntmps144
 go_wp2_with (go_at_call 171; refine (hh _).mono ?_; rintro e w1 ⟨rfl, rfl⟩)
 go_quiet (first | (go_at_call_of 173 (Value.string (bs b.txt)); exact Calls.quiet_of (hpb _)) | (go_at_call_of 173 (Value.string (bs c.txt)); exact Calls.quiet_of (hpc _)))
 go_wp2_with (go_at_call 115; refine (her _ _).mono ?_; rintro e w2 ⟨rfl, hg1, hy1⟩)
 go_ret
 exact ⟨rfl, gr_trans (grew_of (below_box _ _ _) _) hg1, hy1⟩
set_option maxRecDepth 100000 in
set_option maxHeartbeats 1000000 in
theorem made_loop_p (w : World) (yb xb : Nat) (cv nv tv ov kv : Value) (p : Nat) (nm : List UInt8) (px : Nat) (n : Int) (id last site : Nat) (hne : xb ≠ yb)
  (hy : w.heap[yb]? = some (.cells (tyCells cv nv tv ov 0 p) 115 (0, 0)))
  (hx : w.heap[xb]? = some (.cells (exCells Kw.loop.bytes px nm n kv id last site) 82 (0, 0)))
  (r : Nat) (a a' : Ty) (hs : (Ty.p r a a').txt.length ≤ 100000) (b c : ByteArray) :
  Calls Tryz.prog 144 #[ptr yb, ptr xb, .agg #[.string (bs (Ty.p r a a').txt), .string b, .string c]] w fun v w' => v = .returned (.string (bs [110])) ∧ w.grownBy w' (some yb) ∧ w'.heap[yb]? = some (.cells (tyCells cv nv tv ov 5 px) 115 (0, 0)) := by
 have x0 : w.cell? ⟨xb, 0, none⟩ = some (.string (bs Kw.loop.bytes)) := by rw [blk_cell hx]; rfl
 have hxb := blk_lt hx
 have hyb := blk_lt hy
 have HY : Hid _ := hy
 have HX : Hid _ := hx
 have q0 : ((bs Kw.loop.bytes).toList == [110, 101, 119]) = false := by rw [bs_beq0]; decide
 have q1 : ((bs Kw.loop.bytes).toList == [112, 97, 105, 114]) = false := by rw [bs_beq0]; decide
 have q2 : ((bs Kw.loop.bytes).toList == [102, 115, 116]) = false := by rw [bs_beq0]; decide
 have q3 : ((bs Kw.loop.bytes).toList == [115, 110, 100]) = false := by rw [bs_beq0]; decide
 have q4 : ((bs Kw.loop.bytes).toList == [105, 102]) = false := by rw [bs_beq0]; decide
 have q5 : ((bs Kw.loop.bytes).toList == [108, 111, 111, 112]) = true := by rw [bs_beq0]; decide
 have hh := fun w => halves_p r a a' w hs
 have k0 : ((bs (Ty.p r a a').txt).toList == [110]) = false := by rw [bs_beq0]; simp [Ty.txt]
 have her := fun (o : Obj) (m : Nat) => err_any ((w.alloc o).drewN m) yb xb cv nv tv ov kv 0 p 5 _ nm px n id last site hne (blk_alloc o hy) (blk_alloc o hx)
 unfold ptr at her
 clear hy hx
 show Calls _ _ #[Value.pointer (some ⟨yb, 0, none⟩), Value.pointer (some ⟨xb, 0, none⟩), _] w _
 go_enter Tryz.func144, Tryz.ntmps144
 go_wp2_with (go_at_call 171; refine (hh _).mono ?_; rintro e w1 ⟨rfl, n1, rfl⟩)
 go_quiet (fail)
 go_wp2_with (go_at_call 115; refine (her _ _).mono ?_; rintro e w2 ⟨rfl, hg1, hy1⟩)
 go_ret
 exact ⟨rfl, gr_trans (grew_of (below_box _ _ _) _) hg1, hy1⟩
end Go.Proofs.YtpicaknklgccoaaGreatDoor
