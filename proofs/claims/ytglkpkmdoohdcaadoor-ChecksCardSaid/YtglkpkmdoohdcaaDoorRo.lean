import Derived.Test.YtglkpkmdoohdcaaDoorRn
namespace Go.Proofs.YtglkpkmdoohdcaaDoor
open Go.RowKit
open Go.Lib (decDigits)

theorem grew_of {w w' : World} (h : Below w.heap.size w w') (row : Option Nat) : w.grownBy w' row := grown_of_below h row
theorem below_box (w : World) (o : Obj) (n : Nat) : Below w.heap.size w ((w.alloc o).drewN n) := ⟨rfl, rfl, rfl, by simp, fun k hk => Below.heap_alloc _ _ _ hk⟩
theorem made_ok {w : World} {yb : Nat} {o : Obj} {n : Nat} {c : Obj} (hy : w.heap[yb]? = some c) : w.grownBy ((w.alloc o).drewN n) (some yb) ∧ ((w.alloc o).drewN n).heap[yb]? = some c :=
  ⟨grew_of (below_box w o n) _, by show (w.alloc o).heap[yb]? = _; exact blk_alloc _ hy⟩
set_option maxRecDepth 100000 in
set_option maxHeartbeats 1000000 in
theorem made_fst_ok (w : World) (yb xb : Nat) (cv nv tv ov kv : Value) (p : Nat) (nm : List UInt8) (px : Nat) (n : Int) (id last site : Nat)
    (hy : w.heap[yb]? = some (.cells (tyCells cv nv tv ov 0 p) 86 (0, 0)))
    (hx : w.heap[xb]? = some (.cells (exCells Kw.fst.bytes px nm n kv id last site) 82 (0, 0)))
    (r : Nat) (a b : Ty) (hs : (Ty.p r a b).txt.length ≤ 100000) :
    Calls Tryd.prog 101 #[ptr yb, ptr xb, .agg #[.string (bs (Ty.p r a b).txt), .string (bs []), .string (bs [])]] w fun v w' => v = .returned (.string (bs a.txt)) ∧ w.grownBy w' (some yb) ∧ w'.heap[yb]? = some (.cells (tyCells cv nv tv ov 0 p) 86 (0, 0)) := by
  have x0 : w.cell? ⟨xb, 0, none⟩ = some (.string (bs Kw.fst.bytes)) := by rw [blk_cell hx]; rfl
  have hxb := blk_lt hx
  have HY : Hid _ := hy
  have HX : Hid _ := hx
  have q0 : ((bs Kw.fst.bytes).toList == [110, 101, 119]) = false := by rw [bs_beq0]; decide
  have q1 : ((bs Kw.fst.bytes).toList == [112, 97, 105, 114]) = false := by rw [bs_beq0]; decide
  have q2 : ((bs Kw.fst.bytes).toList == [102, 115, 116]) = true := by rw [bs_beq0]; decide
  have hh := fun w => halves_p r a b w hs
  clear hy hx
  show Calls _ _ #[Value.pointer (some ⟨yb, 0, none⟩), Value.pointer (some ⟨xb, 0, none⟩), _] w _
  go_enter Tryd.func101, Tryd.ntmps101
  go_wp2_with (go_at_call 111; refine (hh _).mono ?_; rintro e w1 ⟨rfl, n1, rfl⟩)
  go_ret
  exact ⟨rfl, made_ok HY.out⟩

set_option maxRecDepth 100000 in
set_option maxHeartbeats 1000000 in
theorem made_fst_no (w : World) (yb xb : Nat) (cv nv tv ov kv : Value) (p : Nat) (nm : List UInt8) (px : Nat) (n : Int) (id last site : Nat) (hne : xb ≠ yb)
    (hy : w.heap[yb]? = some (.cells (tyCells cv nv tv ov 0 p) 86 (0, 0)))
    (hx : w.heap[xb]? = some (.cells (exCells Kw.fst.bytes px nm n kv id last site) 82 (0, 0))) :
    Calls Tryd.prog 101 #[ptr yb, ptr xb, .agg #[.string (bs Ty.n.txt), .string (bs []), .string (bs [])]] w fun v w' => v = .returned (.string (bs [110])) ∧ w.grownBy w' (some yb) ∧ w'.heap[yb]? = some (.cells (tyCells cv nv tv ov 5 px) 86 (0, 0)) := by
  have x0 : w.cell? ⟨xb, 0, none⟩ = some (.string (bs Kw.fst.bytes)) := by rw [blk_cell hx]; rfl
  have hxb := blk_lt hx
  have HY : Hid _ := hy
  have HX : Hid _ := hx
  have q0 : ((bs Kw.fst.bytes).toList == [110, 101, 119]) = false := by rw [bs_beq0]; decide
  have q1 : ((bs Kw.fst.bytes).toList == [112, 97, 105, 114]) = false := by rw [bs_beq0]; decide
  have q2 : ((bs Kw.fst.bytes).toList == [102, 115, 116]) = true := by rw [bs_beq0]; decide
  have hh := fun w => halves_n w
  have her := fun (o : Obj) => err_any (w.alloc o) yb xb cv nv tv ov kv 0 p 5 _ nm px n id last site hne (blk_alloc o hy) (blk_alloc o hx)
  unfold ptr at her
  clear hy hx
  show Calls _ _ #[Value.pointer (some ⟨yb, 0, none⟩), Value.pointer (some ⟨xb, 0, none⟩), _] w _
  go_enter Tryd.func101, Tryd.ntmps101
  go_wp2_with (first
    | (go_at_call 111; refine (hh _).mono ?_; rintro e w1 ⟨rfl, rfl⟩)
    | (go_at_call 85; refine (her _).mono ?_; rintro e w1 ⟨rfl, hg1, hy1⟩))
  go_ret
  exact ⟨rfl, gr_trans (gr_alloc _ _ _) hg1, hy1⟩

set_option maxRecDepth 100000 in
set_option maxHeartbeats 1000000 in
theorem made_snd_ok (w : World) (yb xb : Nat) (cv nv tv ov kv : Value) (p : Nat) (nm : List UInt8) (px : Nat) (n : Int) (id last site : Nat)
    (hy : w.heap[yb]? = some (.cells (tyCells cv nv tv ov 0 p) 86 (0, 0)))
    (hx : w.heap[xb]? = some (.cells (exCells Kw.snd.bytes px nm n kv id last site) 82 (0, 0)))
    (r : Nat) (a b : Ty) (hs : (Ty.p r a b).txt.length ≤ 100000) :
    Calls Tryd.prog 101 #[ptr yb, ptr xb, .agg #[.string (bs (Ty.p r a b).txt), .string (bs []), .string (bs [])]] w fun v w' => v = .returned (.string (bs b.txt)) ∧ w.grownBy w' (some yb) ∧ w'.heap[yb]? = some (.cells (tyCells cv nv tv ov 0 p) 86 (0, 0)) := by
  have x0 : w.cell? ⟨xb, 0, none⟩ = some (.string (bs Kw.snd.bytes)) := by rw [blk_cell hx]; rfl
  have hxb := blk_lt hx
  have HY : Hid _ := hy
  have HX : Hid _ := hx
  have q0 : ((bs Kw.snd.bytes).toList == [110, 101, 119]) = false := by rw [bs_beq0]; decide
  have q1 : ((bs Kw.snd.bytes).toList == [112, 97, 105, 114]) = false := by rw [bs_beq0]; decide
  have q2 : ((bs Kw.snd.bytes).toList == [102, 115, 116]) = false := by rw [bs_beq0]; decide
  have q3 : ((bs Kw.snd.bytes).toList == [115, 110, 100]) = true := by rw [bs_beq0]; decide
  have hh := fun w => halves_p r a b w hs
  clear hy hx
  show Calls _ _ #[Value.pointer (some ⟨yb, 0, none⟩), Value.pointer (some ⟨xb, 0, none⟩), _] w _
  go_enter Tryd.func101, Tryd.ntmps101
  go_wp2_with (go_at_call 111; refine (hh _).mono ?_; rintro e w1 ⟨rfl, n1, rfl⟩)
  go_ret
  exact ⟨rfl, made_ok HY.out⟩

set_option maxRecDepth 100000 in
set_option maxHeartbeats 1000000 in
theorem made_snd_no (w : World) (yb xb : Nat) (cv nv tv ov kv : Value) (p : Nat) (nm : List UInt8) (px : Nat) (n : Int) (id last site : Nat) (hne : xb ≠ yb)
    (hy : w.heap[yb]? = some (.cells (tyCells cv nv tv ov 0 p) 86 (0, 0)))
    (hx : w.heap[xb]? = some (.cells (exCells Kw.snd.bytes px nm n kv id last site) 82 (0, 0))) :
    Calls Tryd.prog 101 #[ptr yb, ptr xb, .agg #[.string (bs Ty.n.txt), .string (bs []), .string (bs [])]] w fun v w' => v = .returned (.string (bs [110])) ∧ w.grownBy w' (some yb) ∧ w'.heap[yb]? = some (.cells (tyCells cv nv tv ov 5 px) 86 (0, 0)) := by
  have x0 : w.cell? ⟨xb, 0, none⟩ = some (.string (bs Kw.snd.bytes)) := by rw [blk_cell hx]; rfl
  have hxb := blk_lt hx
  have HY : Hid _ := hy
  have HX : Hid _ := hx
  have q0 : ((bs Kw.snd.bytes).toList == [110, 101, 119]) = false := by rw [bs_beq0]; decide
  have q1 : ((bs Kw.snd.bytes).toList == [112, 97, 105, 114]) = false := by rw [bs_beq0]; decide
  have q2 : ((bs Kw.snd.bytes).toList == [102, 115, 116]) = false := by rw [bs_beq0]; decide
  have q3 : ((bs Kw.snd.bytes).toList == [115, 110, 100]) = true := by rw [bs_beq0]; decide
  have hh := fun w => halves_n w
  have her := fun (o : Obj) => err_any (w.alloc o) yb xb cv nv tv ov kv 0 p 5 _ nm px n id last site hne (blk_alloc o hy) (blk_alloc o hx)
  unfold ptr at her
  clear hy hx
  show Calls _ _ #[Value.pointer (some ⟨yb, 0, none⟩), Value.pointer (some ⟨xb, 0, none⟩), _] w _
  go_enter Tryd.func101, Tryd.ntmps101
  go_wp2_with (first
    | (go_at_call 111; refine (hh _).mono ?_; rintro e w1 ⟨rfl, rfl⟩)
    | (go_at_call 85; refine (her _).mono ?_; rintro e w1 ⟨rfl, hg1, hy1⟩))
  go_ret
  exact ⟨rfl, gr_trans (gr_alloc _ _ _) hg1, hy1⟩

set_option maxRecDepth 100000 in
set_option maxHeartbeats 1000000 in
theorem made_add_ok (w : World) (yb xb : Nat) (cv nv tv ov kv : Value) (p : Nat) (nm : List UInt8) (px : Nat) (n : Int) (id last site : Nat)
    (hy : w.heap[yb]? = some (.cells (tyCells cv nv tv ov 0 p) 86 (0, 0)))
    (hx : w.heap[xb]? = some (.cells (exCells Kw.add.bytes px nm n kv id last site) 82 (0, 0))) :
    Calls Tryd.prog 101 #[ptr yb, ptr xb, .agg #[.string (bs Ty.n.txt), .string (bs Ty.n.txt), .string (bs [])]] w fun v w' => v = .returned (.string (bs [110])) ∧ w.grownBy w' (some yb) ∧ w'.heap[yb]? = some (.cells (tyCells cv nv tv ov 0 p) 86 (0, 0)) := by
  have x0 : w.cell? ⟨xb, 0, none⟩ = some (.string (bs Kw.add.bytes)) := by rw [blk_cell hx]; rfl
  have hxb := blk_lt hx
  have HY : Hid _ := hy
  have HX : Hid _ := hx
  have q0 : ((bs Kw.add.bytes).toList == [110, 101, 119]) = false := by rw [bs_beq0]; decide
  have q1 : ((bs Kw.add.bytes).toList == [112, 97, 105, 114]) = false := by rw [bs_beq0]; decide
  have q2 : ((bs Kw.add.bytes).toList == [102, 115, 116]) = false := by rw [bs_beq0]; decide
  have q3 : ((bs Kw.add.bytes).toList == [115, 110, 100]) = false := by rw [bs_beq0]; decide
  have q4 : ((bs Kw.add.bytes).toList == [105, 102]) = false := by rw [bs_beq0]; decide
  have q5 : ((bs Kw.add.bytes).toList == [108, 111, 111, 112]) = false := by rw [bs_beq0]; decide
  have k0 : ((bs Ty.n.txt).toList == [110]) = true := by rw [bs_beq0]; decide
  have k1 : ((bs Ty.n.txt).toList == [110]) = true := by rw [bs_beq0]; decide
  have hh := fun w => halves_n w
  clear hy hx
  show Calls _ _ #[Value.pointer (some ⟨yb, 0, none⟩), Value.pointer (some ⟨xb, 0, none⟩), _] w _
  go_enter Tryd.func101, Tryd.ntmps101
  go_wp2_with (go_at_call 111; refine (hh _).mono ?_; rintro e w1 ⟨rfl, rfl⟩)
  go_ret
  exact ⟨rfl, made_ok (n := 0) HY.out⟩

set_option maxRecDepth 100000 in
set_option maxHeartbeats 1000000 in
theorem made_add_p (w : World) (yb xb : Nat) (cv nv tv ov kv : Value) (p : Nat) (nm : List UInt8) (px : Nat) (n : Int) (id last site : Nat) (hne : xb ≠ yb)
    (hy : w.heap[yb]? = some (.cells (tyCells cv nv tv ov 0 p) 86 (0, 0)))
    (hx : w.heap[xb]? = some (.cells (exCells Kw.add.bytes px nm n kv id last site) 82 (0, 0)))
    (r : Nat) (a b u : Ty) (hs : (Ty.p r a b).txt.length ≤ 100000) :
    Calls Tryd.prog 101 #[ptr yb, ptr xb, .agg #[.string (bs (Ty.p r a b).txt), .string (bs u.txt), .string (bs [])]] w fun v w' => v = .returned (.string (bs [110])) ∧ w.grownBy w' (some yb) ∧ w'.heap[yb]? = some (.cells (tyCells cv nv tv ov 5 px) 86 (0, 0)) := by
  have x0 : w.cell? ⟨xb, 0, none⟩ = some (.string (bs Kw.add.bytes)) := by rw [blk_cell hx]; rfl
  have hxb := blk_lt hx
  have HY : Hid _ := hy
  have HX : Hid _ := hx
  have q0 : ((bs Kw.add.bytes).toList == [110, 101, 119]) = false := by rw [bs_beq0]; decide
  have q1 : ((bs Kw.add.bytes).toList == [112, 97, 105, 114]) = false := by rw [bs_beq0]; decide
  have q2 : ((bs Kw.add.bytes).toList == [102, 115, 116]) = false := by rw [bs_beq0]; decide
  have q3 : ((bs Kw.add.bytes).toList == [115, 110, 100]) = false := by rw [bs_beq0]; decide
  have q4 : ((bs Kw.add.bytes).toList == [105, 102]) = false := by rw [bs_beq0]; decide
  have q5 : ((bs Kw.add.bytes).toList == [108, 111, 111, 112]) = false := by rw [bs_beq0]; decide
  have k0 : ((bs (Ty.p r a b).txt).toList == [110]) = false := by rw [bs_beq0]; simp [Ty.txt]
  have hh := fun w => halves_p r a b w hs
  have her := fun (o : Obj) (m : Nat) => err_any ((w.alloc o).drewN m) yb xb cv nv tv ov kv 0 p 5 _ nm px n id last site hne (blk_alloc o hy) (blk_alloc o hx)
  unfold ptr at her
  clear hy hx
  show Calls _ _ #[Value.pointer (some ⟨yb, 0, none⟩), Value.pointer (some ⟨xb, 0, none⟩), _] w _
  go_enter Tryd.func101, Tryd.ntmps101
  go_wp2_with (first
    | (go_at_call 111; refine (hh _).mono ?_; rintro e w1 ⟨rfl, n1, rfl⟩)
    | (go_at_call 85; refine (her _ _).mono ?_; rintro e w2 ⟨rfl, hg1, hy1⟩))
  go_ret
  exact ⟨rfl, gr_trans (grew_of (below_box _ _ n1) _) hg1, hy1⟩

set_option maxRecDepth 100000 in
set_option maxHeartbeats 1000000 in
theorem made_add_q (w : World) (yb xb : Nat) (cv nv tv ov kv : Value) (p : Nat) (nm : List UInt8) (px : Nat) (n : Int) (id last site : Nat) (hne : xb ≠ yb)
    (hy : w.heap[yb]? = some (.cells (tyCells cv nv tv ov 0 p) 86 (0, 0)))
    (hx : w.heap[xb]? = some (.cells (exCells Kw.add.bytes px nm n kv id last site) 82 (0, 0)))
    (r : Nat) (a b : Ty) :
    Calls Tryd.prog 101 #[ptr yb, ptr xb, .agg #[.string (bs Ty.n.txt), .string (bs (Ty.p r a b).txt), .string (bs [])]] w fun v w' => v = .returned (.string (bs [110])) ∧ w.grownBy w' (some yb) ∧ w'.heap[yb]? = some (.cells (tyCells cv nv tv ov 5 px) 86 (0, 0)) := by
  have x0 : w.cell? ⟨xb, 0, none⟩ = some (.string (bs Kw.add.bytes)) := by rw [blk_cell hx]; rfl
  have hxb := blk_lt hx
  have HY : Hid _ := hy
  have HX : Hid _ := hx
  have q0 : ((bs Kw.add.bytes).toList == [110, 101, 119]) = false := by rw [bs_beq0]; decide
  have q1 : ((bs Kw.add.bytes).toList == [112, 97, 105, 114]) = false := by rw [bs_beq0]; decide
  have q2 : ((bs Kw.add.bytes).toList == [102, 115, 116]) = false := by rw [bs_beq0]; decide
  have q3 : ((bs Kw.add.bytes).toList == [115, 110, 100]) = false := by rw [bs_beq0]; decide
  have q4 : ((bs Kw.add.bytes).toList == [105, 102]) = false := by rw [bs_beq0]; decide
  have q5 : ((bs Kw.add.bytes).toList == [108, 111, 111, 112]) = false := by rw [bs_beq0]; decide
  have k0 : ((bs Ty.n.txt).toList == [110]) = true := by rw [bs_beq0]; decide
  have k1 : ((bs (Ty.p r a b).txt).toList == [110]) = false := by rw [bs_beq0]; simp [Ty.txt]
  have hh := fun w => halves_n w
  have her := fun (o : Obj) => err_any (w.alloc o) yb xb cv nv tv ov kv 0 p 5 _ nm px n id last site hne (blk_alloc o hy) (blk_alloc o hx)
  unfold ptr at her
  clear hy hx
  show Calls _ _ #[Value.pointer (some ⟨yb, 0, none⟩), Value.pointer (some ⟨xb, 0, none⟩), _] w _
  go_enter Tryd.func101, Tryd.ntmps101
  go_wp2_with (first
    | (go_at_call 111; refine (hh _).mono ?_; rintro e w1 ⟨rfl, rfl⟩)
    | (go_at_call 85; refine (her _).mono ?_; rintro e w2 ⟨rfl, hg1, hy1⟩))
  go_ret
  exact ⟨rfl, gr_trans (grew_of (below_box _ _ 0) _) hg1, hy1⟩

set_option maxRecDepth 100000 in
set_option maxHeartbeats 1000000 in
theorem made_sub_ok (w : World) (yb xb : Nat) (cv nv tv ov kv : Value) (p : Nat) (nm : List UInt8) (px : Nat) (n : Int) (id last site : Nat)
    (hy : w.heap[yb]? = some (.cells (tyCells cv nv tv ov 0 p) 86 (0, 0)))
    (hx : w.heap[xb]? = some (.cells (exCells Kw.sub.bytes px nm n kv id last site) 82 (0, 0))) :
    Calls Tryd.prog 101 #[ptr yb, ptr xb, .agg #[.string (bs Ty.n.txt), .string (bs Ty.n.txt), .string (bs [])]] w fun v w' => v = .returned (.string (bs [110])) ∧ w.grownBy w' (some yb) ∧ w'.heap[yb]? = some (.cells (tyCells cv nv tv ov 0 p) 86 (0, 0)) := by
  have x0 : w.cell? ⟨xb, 0, none⟩ = some (.string (bs Kw.sub.bytes)) := by rw [blk_cell hx]; rfl
  have hxb := blk_lt hx
  have HY : Hid _ := hy
  have HX : Hid _ := hx
  have q0 : ((bs Kw.sub.bytes).toList == [110, 101, 119]) = false := by rw [bs_beq0]; decide
  have q1 : ((bs Kw.sub.bytes).toList == [112, 97, 105, 114]) = false := by rw [bs_beq0]; decide
  have q2 : ((bs Kw.sub.bytes).toList == [102, 115, 116]) = false := by rw [bs_beq0]; decide
  have q3 : ((bs Kw.sub.bytes).toList == [115, 110, 100]) = false := by rw [bs_beq0]; decide
  have q4 : ((bs Kw.sub.bytes).toList == [105, 102]) = false := by rw [bs_beq0]; decide
  have q5 : ((bs Kw.sub.bytes).toList == [108, 111, 111, 112]) = false := by rw [bs_beq0]; decide
  have k0 : ((bs Ty.n.txt).toList == [110]) = true := by rw [bs_beq0]; decide
  have k1 : ((bs Ty.n.txt).toList == [110]) = true := by rw [bs_beq0]; decide
  have hh := fun w => halves_n w
  clear hy hx
  show Calls _ _ #[Value.pointer (some ⟨yb, 0, none⟩), Value.pointer (some ⟨xb, 0, none⟩), _] w _
  go_enter Tryd.func101, Tryd.ntmps101
  go_wp2_with (go_at_call 111; refine (hh _).mono ?_; rintro e w1 ⟨rfl, rfl⟩)
  go_ret
  exact ⟨rfl, made_ok (n := 0) HY.out⟩

set_option maxRecDepth 100000 in
set_option maxHeartbeats 1000000 in
theorem made_sub_p (w : World) (yb xb : Nat) (cv nv tv ov kv : Value) (p : Nat) (nm : List UInt8) (px : Nat) (n : Int) (id last site : Nat) (hne : xb ≠ yb)
    (hy : w.heap[yb]? = some (.cells (tyCells cv nv tv ov 0 p) 86 (0, 0)))
    (hx : w.heap[xb]? = some (.cells (exCells Kw.sub.bytes px nm n kv id last site) 82 (0, 0)))
    (r : Nat) (a b u : Ty) (hs : (Ty.p r a b).txt.length ≤ 100000) :
    Calls Tryd.prog 101 #[ptr yb, ptr xb, .agg #[.string (bs (Ty.p r a b).txt), .string (bs u.txt), .string (bs [])]] w fun v w' => v = .returned (.string (bs [110])) ∧ w.grownBy w' (some yb) ∧ w'.heap[yb]? = some (.cells (tyCells cv nv tv ov 5 px) 86 (0, 0)) := by
  have x0 : w.cell? ⟨xb, 0, none⟩ = some (.string (bs Kw.sub.bytes)) := by rw [blk_cell hx]; rfl
  have hxb := blk_lt hx
  have HY : Hid _ := hy
  have HX : Hid _ := hx
  have q0 : ((bs Kw.sub.bytes).toList == [110, 101, 119]) = false := by rw [bs_beq0]; decide
  have q1 : ((bs Kw.sub.bytes).toList == [112, 97, 105, 114]) = false := by rw [bs_beq0]; decide
  have q2 : ((bs Kw.sub.bytes).toList == [102, 115, 116]) = false := by rw [bs_beq0]; decide
  have q3 : ((bs Kw.sub.bytes).toList == [115, 110, 100]) = false := by rw [bs_beq0]; decide
  have q4 : ((bs Kw.sub.bytes).toList == [105, 102]) = false := by rw [bs_beq0]; decide
  have q5 : ((bs Kw.sub.bytes).toList == [108, 111, 111, 112]) = false := by rw [bs_beq0]; decide
  have k0 : ((bs (Ty.p r a b).txt).toList == [110]) = false := by rw [bs_beq0]; simp [Ty.txt]
  have hh := fun w => halves_p r a b w hs
  have her := fun (o : Obj) (m : Nat) => err_any ((w.alloc o).drewN m) yb xb cv nv tv ov kv 0 p 5 _ nm px n id last site hne (blk_alloc o hy) (blk_alloc o hx)
  unfold ptr at her
  clear hy hx
  show Calls _ _ #[Value.pointer (some ⟨yb, 0, none⟩), Value.pointer (some ⟨xb, 0, none⟩), _] w _
  go_enter Tryd.func101, Tryd.ntmps101
  go_wp2_with (first
    | (go_at_call 111; refine (hh _).mono ?_; rintro e w1 ⟨rfl, n1, rfl⟩)
    | (go_at_call 85; refine (her _ _).mono ?_; rintro e w2 ⟨rfl, hg1, hy1⟩))
  go_ret
  exact ⟨rfl, gr_trans (grew_of (below_box _ _ n1) _) hg1, hy1⟩

set_option maxRecDepth 100000 in
set_option maxHeartbeats 1000000 in
theorem made_sub_q (w : World) (yb xb : Nat) (cv nv tv ov kv : Value) (p : Nat) (nm : List UInt8) (px : Nat) (n : Int) (id last site : Nat) (hne : xb ≠ yb)
    (hy : w.heap[yb]? = some (.cells (tyCells cv nv tv ov 0 p) 86 (0, 0)))
    (hx : w.heap[xb]? = some (.cells (exCells Kw.sub.bytes px nm n kv id last site) 82 (0, 0)))
    (r : Nat) (a b : Ty) :
    Calls Tryd.prog 101 #[ptr yb, ptr xb, .agg #[.string (bs Ty.n.txt), .string (bs (Ty.p r a b).txt), .string (bs [])]] w fun v w' => v = .returned (.string (bs [110])) ∧ w.grownBy w' (some yb) ∧ w'.heap[yb]? = some (.cells (tyCells cv nv tv ov 5 px) 86 (0, 0)) := by
  have x0 : w.cell? ⟨xb, 0, none⟩ = some (.string (bs Kw.sub.bytes)) := by rw [blk_cell hx]; rfl
  have hxb := blk_lt hx
  have HY : Hid _ := hy
  have HX : Hid _ := hx
  have q0 : ((bs Kw.sub.bytes).toList == [110, 101, 119]) = false := by rw [bs_beq0]; decide
  have q1 : ((bs Kw.sub.bytes).toList == [112, 97, 105, 114]) = false := by rw [bs_beq0]; decide
  have q2 : ((bs Kw.sub.bytes).toList == [102, 115, 116]) = false := by rw [bs_beq0]; decide
  have q3 : ((bs Kw.sub.bytes).toList == [115, 110, 100]) = false := by rw [bs_beq0]; decide
  have q4 : ((bs Kw.sub.bytes).toList == [105, 102]) = false := by rw [bs_beq0]; decide
  have q5 : ((bs Kw.sub.bytes).toList == [108, 111, 111, 112]) = false := by rw [bs_beq0]; decide
  have k0 : ((bs Ty.n.txt).toList == [110]) = true := by rw [bs_beq0]; decide
  have k1 : ((bs (Ty.p r a b).txt).toList == [110]) = false := by rw [bs_beq0]; simp [Ty.txt]
  have hh := fun w => halves_n w
  have her := fun (o : Obj) => err_any (w.alloc o) yb xb cv nv tv ov kv 0 p 5 _ nm px n id last site hne (blk_alloc o hy) (blk_alloc o hx)
  unfold ptr at her
  clear hy hx
  show Calls _ _ #[Value.pointer (some ⟨yb, 0, none⟩), Value.pointer (some ⟨xb, 0, none⟩), _] w _
  go_enter Tryd.func101, Tryd.ntmps101
  go_wp2_with (first
    | (go_at_call 111; refine (hh _).mono ?_; rintro e w1 ⟨rfl, rfl⟩)
    | (go_at_call 85; refine (her _).mono ?_; rintro e w2 ⟨rfl, hg1, hy1⟩))
  go_ret
  exact ⟨rfl, gr_trans (grew_of (below_box _ _ 0) _) hg1, hy1⟩

set_option maxRecDepth 100000 in
set_option maxHeartbeats 1000000 in
theorem made_less_ok (w : World) (yb xb : Nat) (cv nv tv ov kv : Value) (p : Nat) (nm : List UInt8) (px : Nat) (n : Int) (id last site : Nat)
    (hy : w.heap[yb]? = some (.cells (tyCells cv nv tv ov 0 p) 86 (0, 0)))
    (hx : w.heap[xb]? = some (.cells (exCells Kw.less.bytes px nm n kv id last site) 82 (0, 0))) :
    Calls Tryd.prog 101 #[ptr yb, ptr xb, .agg #[.string (bs Ty.n.txt), .string (bs Ty.n.txt), .string (bs [])]] w fun v w' => v = .returned (.string (bs [110])) ∧ w.grownBy w' (some yb) ∧ w'.heap[yb]? = some (.cells (tyCells cv nv tv ov 0 p) 86 (0, 0)) := by
  have x0 : w.cell? ⟨xb, 0, none⟩ = some (.string (bs Kw.less.bytes)) := by rw [blk_cell hx]; rfl
  have hxb := blk_lt hx
  have HY : Hid _ := hy
  have HX : Hid _ := hx
  have q0 : ((bs Kw.less.bytes).toList == [110, 101, 119]) = false := by rw [bs_beq0]; decide
  have q1 : ((bs Kw.less.bytes).toList == [112, 97, 105, 114]) = false := by rw [bs_beq0]; decide
  have q2 : ((bs Kw.less.bytes).toList == [102, 115, 116]) = false := by rw [bs_beq0]; decide
  have q3 : ((bs Kw.less.bytes).toList == [115, 110, 100]) = false := by rw [bs_beq0]; decide
  have q4 : ((bs Kw.less.bytes).toList == [105, 102]) = false := by rw [bs_beq0]; decide
  have q5 : ((bs Kw.less.bytes).toList == [108, 111, 111, 112]) = false := by rw [bs_beq0]; decide
  have k0 : ((bs Ty.n.txt).toList == [110]) = true := by rw [bs_beq0]; decide
  have k1 : ((bs Ty.n.txt).toList == [110]) = true := by rw [bs_beq0]; decide
  have hh := fun w => halves_n w
  clear hy hx
  show Calls _ _ #[Value.pointer (some ⟨yb, 0, none⟩), Value.pointer (some ⟨xb, 0, none⟩), _] w _
  go_enter Tryd.func101, Tryd.ntmps101
  go_wp2_with (go_at_call 111; refine (hh _).mono ?_; rintro e w1 ⟨rfl, rfl⟩)
  go_ret
  exact ⟨rfl, made_ok (n := 0) HY.out⟩

set_option maxRecDepth 100000 in
set_option maxHeartbeats 1000000 in
theorem made_less_p (w : World) (yb xb : Nat) (cv nv tv ov kv : Value) (p : Nat) (nm : List UInt8) (px : Nat) (n : Int) (id last site : Nat) (hne : xb ≠ yb)
    (hy : w.heap[yb]? = some (.cells (tyCells cv nv tv ov 0 p) 86 (0, 0)))
    (hx : w.heap[xb]? = some (.cells (exCells Kw.less.bytes px nm n kv id last site) 82 (0, 0)))
    (r : Nat) (a b u : Ty) (hs : (Ty.p r a b).txt.length ≤ 100000) :
    Calls Tryd.prog 101 #[ptr yb, ptr xb, .agg #[.string (bs (Ty.p r a b).txt), .string (bs u.txt), .string (bs [])]] w fun v w' => v = .returned (.string (bs [110])) ∧ w.grownBy w' (some yb) ∧ w'.heap[yb]? = some (.cells (tyCells cv nv tv ov 5 px) 86 (0, 0)) := by
  have x0 : w.cell? ⟨xb, 0, none⟩ = some (.string (bs Kw.less.bytes)) := by rw [blk_cell hx]; rfl
  have hxb := blk_lt hx
  have HY : Hid _ := hy
  have HX : Hid _ := hx
  have q0 : ((bs Kw.less.bytes).toList == [110, 101, 119]) = false := by rw [bs_beq0]; decide
  have q1 : ((bs Kw.less.bytes).toList == [112, 97, 105, 114]) = false := by rw [bs_beq0]; decide
  have q2 : ((bs Kw.less.bytes).toList == [102, 115, 116]) = false := by rw [bs_beq0]; decide
  have q3 : ((bs Kw.less.bytes).toList == [115, 110, 100]) = false := by rw [bs_beq0]; decide
  have q4 : ((bs Kw.less.bytes).toList == [105, 102]) = false := by rw [bs_beq0]; decide
  have q5 : ((bs Kw.less.bytes).toList == [108, 111, 111, 112]) = false := by rw [bs_beq0]; decide
  have k0 : ((bs (Ty.p r a b).txt).toList == [110]) = false := by rw [bs_beq0]; simp [Ty.txt]
  have hh := fun w => halves_p r a b w hs
  have her := fun (o : Obj) (m : Nat) => err_any ((w.alloc o).drewN m) yb xb cv nv tv ov kv 0 p 5 _ nm px n id last site hne (blk_alloc o hy) (blk_alloc o hx)
  unfold ptr at her
  clear hy hx
  show Calls _ _ #[Value.pointer (some ⟨yb, 0, none⟩), Value.pointer (some ⟨xb, 0, none⟩), _] w _
  go_enter Tryd.func101, Tryd.ntmps101
  go_wp2_with (first
    | (go_at_call 111; refine (hh _).mono ?_; rintro e w1 ⟨rfl, n1, rfl⟩)
    | (go_at_call 85; refine (her _ _).mono ?_; rintro e w2 ⟨rfl, hg1, hy1⟩))
  go_ret
  exact ⟨rfl, gr_trans (grew_of (below_box _ _ n1) _) hg1, hy1⟩

set_option maxRecDepth 100000 in
set_option maxHeartbeats 1000000 in
theorem made_less_q (w : World) (yb xb : Nat) (cv nv tv ov kv : Value) (p : Nat) (nm : List UInt8) (px : Nat) (n : Int) (id last site : Nat) (hne : xb ≠ yb)
    (hy : w.heap[yb]? = some (.cells (tyCells cv nv tv ov 0 p) 86 (0, 0)))
    (hx : w.heap[xb]? = some (.cells (exCells Kw.less.bytes px nm n kv id last site) 82 (0, 0)))
    (r : Nat) (a b : Ty) :
    Calls Tryd.prog 101 #[ptr yb, ptr xb, .agg #[.string (bs Ty.n.txt), .string (bs (Ty.p r a b).txt), .string (bs [])]] w fun v w' => v = .returned (.string (bs [110])) ∧ w.grownBy w' (some yb) ∧ w'.heap[yb]? = some (.cells (tyCells cv nv tv ov 5 px) 86 (0, 0)) := by
  have x0 : w.cell? ⟨xb, 0, none⟩ = some (.string (bs Kw.less.bytes)) := by rw [blk_cell hx]; rfl
  have hxb := blk_lt hx
  have HY : Hid _ := hy
  have HX : Hid _ := hx
  have q0 : ((bs Kw.less.bytes).toList == [110, 101, 119]) = false := by rw [bs_beq0]; decide
  have q1 : ((bs Kw.less.bytes).toList == [112, 97, 105, 114]) = false := by rw [bs_beq0]; decide
  have q2 : ((bs Kw.less.bytes).toList == [102, 115, 116]) = false := by rw [bs_beq0]; decide
  have q3 : ((bs Kw.less.bytes).toList == [115, 110, 100]) = false := by rw [bs_beq0]; decide
  have q4 : ((bs Kw.less.bytes).toList == [105, 102]) = false := by rw [bs_beq0]; decide
  have q5 : ((bs Kw.less.bytes).toList == [108, 111, 111, 112]) = false := by rw [bs_beq0]; decide
  have k0 : ((bs Ty.n.txt).toList == [110]) = true := by rw [bs_beq0]; decide
  have k1 : ((bs (Ty.p r a b).txt).toList == [110]) = false := by rw [bs_beq0]; simp [Ty.txt]
  have hh := fun w => halves_n w
  have her := fun (o : Obj) => err_any (w.alloc o) yb xb cv nv tv ov kv 0 p 5 _ nm px n id last site hne (blk_alloc o hy) (blk_alloc o hx)
  unfold ptr at her
  clear hy hx
  show Calls _ _ #[Value.pointer (some ⟨yb, 0, none⟩), Value.pointer (some ⟨xb, 0, none⟩), _] w _
  go_enter Tryd.func101, Tryd.ntmps101
  go_wp2_with (first
    | (go_at_call 111; refine (hh _).mono ?_; rintro e w1 ⟨rfl, rfl⟩)
    | (go_at_call 85; refine (her _).mono ?_; rintro e w2 ⟨rfl, hg1, hy1⟩))
  go_ret
  exact ⟨rfl, gr_trans (grew_of (below_box _ _ 0) _) hg1, hy1⟩

end Go.Proofs.YtglkpkmdoohdcaaDoor
