import Derived.Test.YtfnplohaokeljaaDoorX3
import Derived.Test.YtfnplohaokeljaaDoorX2
import Derived.BigRegion
import Derived.BigQuiet
import Derived.Deep.QuietTactic
/- Plain mathematics: the types of all expressions, the first error and its place (the document's P3, P7), on the tree. -/
namespace Go.Proofs.YtfnplohaokeljaaDoor

/-- all regions below 100 -/
def Ty.regs : Ty → Prop
  | .n => True
  | .p r a b => r < 100 ∧ a.regs ∧ b.regs
/-- no type that comes up is greater -/
def Ty.fit (t : Ty) : Prop := t.size ≤ 127 ∧ t.regs
theorem dec2 (r : Nat) (h : r < 100) : (Go.Lib.decDigits r).length ≤ 2 := by
  rw [Go.Lib.decDigits]; split
  · simp
  · rw [Go.Lib.decDigits]; split
    · simp
    · omega
theorem regs_len (t : Ty) (h : t.regs) : t.txt.length ≤ 6 * t.size + 1 := by
  induction t with
  | n => simp [Ty.txt, Ty.size]
  | p r a b iha ihb =>
    simp only [Ty.regs] at h
    have h1 := iha h.2.1
    have h2 := ihb h.2.2
    have h3 := dec2 r h.1
    simp only [Ty.txt, Ty.size, List.length_cons, List.length_append, List.length_nil]; omega
theorem fit_len {t : Ty} (h : t.fit) : t.txt.length ≤ 1000 := by
  have := regs_len t h.2
  have := h.1
  omega

structure TSt where
  e : Nat
  at_ : Nat
  of : List (List UInt8)
abbrev TEnv := List (List UInt8 × Ty)

/-- the innermost binding (the last) -/
def look (env : TEnv) (s : List UInt8) : Option Ty := (env.reverse.find? (fun x => x.1 == s)).map (·.2)
/-- the first error stays -/
def errS (st : TSt) (e p : Nat) : TSt := if st.e = 0 then { st with e := e, at_ := p } else st
def fin (id p : Nat) (x : Ty × TSt) : Ty × TSt :=
  let st := if x.2.e = 0 ∧ 63 < x.1.size then errS x.2 6 p else x.2
  (x.1, { st with of := st.of.set id x.1.txt })
/-- out of the parts' types -/
def madeT (cls : List Nat) (k : Kw) (p site : Nat) (ks : List Ty) (st : TSt) : Ty × TSt :=
  match k, ks with
  | .new, a :: _ => (a, st)
  | .pair, [a, b] => (.p (cls.getD site 0) a b, st)
  | .fst, .p _ a _ :: _ => (a, st)
  | .snd, .p _ _ b :: _ => (b, st)
  | .if_, [a, b, c] => if a = .n ∧ b.bare = c.bare then (b, st) else (.n, errS st 5 p)
  | .loop, [a, b, c] => if a = .n ∧ b.bare = c.bare then (b, st) else (.n, errS st 5 p)
  | .add, [a, b] => if a = .n ∧ b = .n then (.n, st) else (.n, errS st 5 p)
  | .sub, [a, b] => if a = .n ∧ b = .n then (.n, st) else (.n, errS st 5 p)
  | .less, [a, b] => if a = .n ∧ b = .n then (.n, st) else (.n, errS st 5 p)
  | _, _ => (.n, errS st 5 p)

mutual
def tyFind (cls : List Nat) : PT → Nat → Nat → TEnv → TSt → Ty × TSt
  | .num p _, id, _, _, st => fin id p (.n, st)
  | .name p s, id, _, env, st => fin id p (match look env s with
    | some t => (t, st)
    | none => (.n, errS st 4 p))
  | .node p k nm _ kids, id, site, env, st =>
    fin id p (if k = .let_ then tyLet cls nm kids (id + 1) site env st
      else
        let x := if k = .loop then tyLoop cls nm kids (id + 1) site env st else tyKids cls kids (id + 1) (site + if k = .pair then 1 else 0) env st
        if x.2.e ≠ 0 then (.n, x.2) else madeT cls k p site x.1 x.2)
def tyKids (cls : List Nat) : List PT → Nat → Nat → TEnv → TSt → List Ty × TSt
  | [], _, _, _, st => ([], st)
  | a :: r, id, site, env, st =>
    let x := tyFind cls a id site env st
    let y := tyKids cls r (id + a.cnt) (site + a.prs) env x.2
    (x.1 :: y.1, y.2)
def tyLet (cls : List Nat) (nm : List UInt8) : List PT → Nat → Nat → TEnv → TSt → Ty × TSt
  | [a, b], id, site, env, st =>
    let x := tyFind cls a id site env st
    tyFind cls b (id + a.cnt) (site + a.prs) (env ++ [(nm, x.1)]) x.2
  | _, _, _, _, st => (.n, st)
def tyLoop (cls : List Nat) (nm : List UInt8) : List PT → Nat → Nat → TEnv → TSt → List Ty × TSt
  | [a, b, c], id, site, env, st =>
    let x := tyFind cls a id site env st
    let y := tyFind cls b (id + a.cnt) (site + a.prs) env x.2
    let z := tyFind cls c (id + a.cnt + b.cnt) (site + a.prs + b.prs) (env ++ [(nm, y.1)]) y.2
    ([x.1, y.1, z.1], z.2)
  | _, _, _, _, st => ([], st)
end
end Go.Proofs.YtfnplohaokeljaaDoor

namespace Go.Proofs.YtfnplohaokeljaaDoor
open Go.RowKit
open Go.Lib (decDigits)

def tyCells (cv nv tv ov : Value) (e p : Nat) : Array Value := #[cv, nv, tv, ov, .int .i64 e, .int .i64 p]

set_option maxHeartbeats 1000000 in
theorem err_any (w : World) (yb xb : Nat) (cv nv tv ov kv : Value) (e p c : Nat) (op nm : List UInt8) (px : Nat) (n : Int) (id last site : Nat) (hne : xb ≠ yb)
    (hy : w.heap[yb]? = some (.cells (tyCells cv nv tv ov e p) 57 (0, 0)))
    (hx : w.heap[xb]? = some (.cells (exCells op px nm n kv id last site) 53 (0, 0))) :
    Calls Tryd.prog 52 #[ptr yb, .int .i64 c, ptr xb] w fun v w' => v = .returned (.string (bs [110])) ∧ w.grownBy w' (some yb) ∧
      w'.heap[yb]? = some (.cells (tyCells cv nv tv ov (if e = 0 then c else e) (if e = 0 then px else p)) 57 (0, 0)) := by
  have y4 : w.cell? ⟨yb, 4, none⟩ = some (.int .i64 e) := by rw [blk_cell hy]; rfl
  have y5 : w.cell? ⟨yb, 5, none⟩ = some (.int .i64 p) := by rw [blk_cell hy]; rfl
  have f4 : w.frozen? ⟨yb, 4, none⟩ = false := blk_free hy 4
  have f5 : w.frozen? ⟨yb, 5, none⟩ = false := blk_free hy 5
  have x1 : w.cell? ⟨xb, 1, none⟩ = some (.int .i64 px) := by rw [blk_cell hx]; rfl
  have hne' : yb ≠ xb := fun h => hne h.symm
  have HY : Hid _ := hy
  clear hy hx
  show Calls _ _ #[Value.pointer (some ⟨yb, 0, none⟩), _, Value.pointer (some ⟨xb, 0, none⟩)] w _
  by_cases he : e = 0
  · subst he
    go_enter Tryd.func52, Tryd.ntmps52
    go_wp2
    go_ret
    refine ⟨rfl, gr_trans (gr_set w ⟨yb, 4, none⟩ _) (gr_set _ ⟨yb, 5, none⟩ _), ?_⟩
    exact blk_set (blk_set HY.out 4 _) 5 _
  · have he' : ((e : Int) == 0) = false := by rw [beq_eq_false_iff_ne]; omega
    have HE : Hid (¬ e = 0) := he
    clear he
    go_enter Tryd.func52, Tryd.ntmps52
    go_wp2
    go_ret
    refine ⟨rfl, World.grownBy.refl _ _, ?_⟩
    first | exact HY.out | (rw [if_neg HE.out, if_neg HE.out]; exact HY.out)

set_option maxHeartbeats 1000000 in
theorem pairOf_any (r : Nat) (a b : Ty) (w : World) (hr : r < 100) (hs : a.txt.length + b.txt.length ≤ 90000) : Calls Tryd.prog 74 #[.int .i64 r, .string (bs a.txt), .string (bs b.txt)] w fun e w' => e = .returned (.string (bs (Ty.p r a b).txt)) ∧ w' = w := by
  have hdl := dec_len r (by omega)
  have hit := fun w => itoa_small r w hr
  have z1 : (ByteArray.mk #[60]).size = 1 := rfl
  have z0 : (bs (decDigits r)).size ≤ 3 := by rw [bs_size]; exact hdl
  have z2 : (ByteArray.mk #[60] ++ bs (decDigits r)).size ≤ 4 := by rw [ByteArray.size_append, z1]; omega
  have z3 : (ByteArray.mk #[58]).size = 1 := rfl
  have z4 : (ByteArray.mk #[60] ++ bs (decDigits r) ++ ByteArray.mk #[58]).size ≤ 5 := by rw [ByteArray.size_append, z3]; omega
  have z5 : (bs a.txt).size ≤ 90000 := by rw [bs_size]; omega
  have z6 : (ByteArray.mk #[60] ++ bs (decDigits r) ++ ByteArray.mk #[58] ++ bs a.txt).size ≤ 90005 := by rw [ByteArray.size_append]; omega
  have z7 : (bs b.txt).size ≤ 90000 := by rw [bs_size]; omega
  have z8 : (ByteArray.mk #[60] ++ bs (decDigits r) ++ ByteArray.mk #[58] ++ bs a.txt ++ bs b.txt).size ≤ 180005 := by rw [ByteArray.size_append]; omega
  have z9 : (ByteArray.mk #[62]).size = 1 := rfl
  go_enter Tryd.func74, Tryd.ntmps74
  go_wp2_with (go_at_call 27; refine (hit _).mono ?_; rintro e w' ⟨rfl, rfl⟩)
  go_ret
  refine ⟨?_, rfl⟩
  have e : (ByteArray.mk #[60] ++ bs (decDigits r) ++ ByteArray.mk #[58] ++ bs a.txt ++ bs b.txt ++ ByteArray.mk #[62]) = bs (Ty.p r a b).txt := by
    rw [show ByteArray.mk #[60] = bs [60] from rfl, show ByteArray.mk #[58] = bs [58] from rfl, show ByteArray.mk #[62] = bs [62] from rfl, bs_app, bs_app, bs_app, bs_app, bs_app]
    simp [Ty.txt]
  rw [← e]; rfl
end Go.Proofs.YtfnplohaokeljaaDoor

namespace Go.Proofs.YtfnplohaokeljaaDoor
open Go.RowKit
open Go.Lib (decDigits)

theorem grew_of {w w' : World} (h : Below w.heap.size w w') (row : Option Nat) : w.grownBy w' row := grown_of_below h row
theorem below_box (w : World) (o : Obj) (n : Nat) : Below w.heap.size w ((w.alloc o).drewN n) := ⟨rfl, rfl, rfl, by simp, fun k hk => Below.heap_alloc _ _ _ hk⟩
theorem made_ok {w : World} {yb : Nat} {o : Obj} {n : Nat} {c : Obj} (hy : w.heap[yb]? = some c) : w.grownBy ((w.alloc o).drewN n) (some yb) ∧ ((w.alloc o).drewN n).heap[yb]? = some c :=
  ⟨grew_of (below_box w o n) _, by show (w.alloc o).heap[yb]? = _; exact blk_alloc _ hy⟩
set_option maxRecDepth 100000 in
set_option maxHeartbeats 1000000 in
theorem made_fst_ok (w : World) (yb xb : Nat) (cv nv tv ov kv : Value) (p : Nat) (nm : List UInt8) (px : Nat) (n : Int) (id last site : Nat)
    (hy : w.heap[yb]? = some (.cells (tyCells cv nv tv ov 0 p) 57 (0, 0)))
    (hx : w.heap[xb]? = some (.cells (exCells Kw.fst.bytes px nm n kv id last site) 53 (0, 0)))
    (r : Nat) (a b : Ty) (hs : (Ty.p r a b).txt.length ≤ 100000) :
    Calls Tryd.prog 64 #[ptr yb, ptr xb, .agg #[.string (bs (Ty.p r a b).txt), .string (bs []), .string (bs [])]] w fun v w' => v = .returned (.string (bs a.txt)) ∧ w.grownBy w' (some yb) ∧ w'.heap[yb]? = some (.cells (tyCells cv nv tv ov 0 p) 57 (0, 0)) := by
  have x0 : w.cell? ⟨xb, 0, none⟩ = some (.string (bs Kw.fst.bytes)) := by rw [blk_cell hx]; rfl
  have hxb := blk_lt hx
  have HY : Hid _ := hy
  have HX : Hid _ := hx
  have q0 : ((bs Kw.fst.bytes).toList == [110, 101, 119]) = false := by rw [bs_beq0]; decide
  have q1 : ((bs Kw.fst.bytes).toList == [112, 97, 105, 114]) = false := by rw [bs_beq0]; decide
  have q2 : ((bs Kw.fst.bytes).toList == [102, 115, 116]) = true := by rw [bs_beq0]; decide
  have hh := fun w => halves_p r a b w hs
  clear hy hx
  show Calls _ _ #[Value.pointer (some ⟨yb, 0, none⟩), Value.pointer (some ⟨xb, 0, none⟩), _] w _
  go_enter Tryd.func64, Tryd.ntmps64
  go_wp2_with (go_at_call 73; refine (hh _).mono ?_; rintro e w1 ⟨rfl, n1, rfl⟩)
  go_ret
  exact ⟨rfl, made_ok HY.out⟩

set_option maxRecDepth 100000 in
set_option maxHeartbeats 1000000 in
theorem made_fst_no (w : World) (yb xb : Nat) (cv nv tv ov kv : Value) (p : Nat) (nm : List UInt8) (px : Nat) (n : Int) (id last site : Nat) (hne : xb ≠ yb)
    (hy : w.heap[yb]? = some (.cells (tyCells cv nv tv ov 0 p) 57 (0, 0)))
    (hx : w.heap[xb]? = some (.cells (exCells Kw.fst.bytes px nm n kv id last site) 53 (0, 0))) :
    Calls Tryd.prog 64 #[ptr yb, ptr xb, .agg #[.string (bs Ty.n.txt), .string (bs []), .string (bs [])]] w fun v w' => v = .returned (.string (bs [110])) ∧ w.grownBy w' (some yb) ∧ w'.heap[yb]? = some (.cells (tyCells cv nv tv ov 5 px) 57 (0, 0)) := by
  have x0 : w.cell? ⟨xb, 0, none⟩ = some (.string (bs Kw.fst.bytes)) := by rw [blk_cell hx]; rfl
  have hxb := blk_lt hx
  have HY : Hid _ := hy
  have HX : Hid _ := hx
  have q0 : ((bs Kw.fst.bytes).toList == [110, 101, 119]) = false := by rw [bs_beq0]; decide
  have q1 : ((bs Kw.fst.bytes).toList == [112, 97, 105, 114]) = false := by rw [bs_beq0]; decide
  have q2 : ((bs Kw.fst.bytes).toList == [102, 115, 116]) = true := by rw [bs_beq0]; decide
  have hh := fun w => halves_n w
  have her := fun (o : Obj) => err_any (w.alloc o) yb xb cv nv tv ov kv 0 p 5 _ nm px n id last site hne (blk_alloc o hy) (blk_alloc o hx)
  unfold ptr at her
  clear hy hx
  show Calls _ _ #[Value.pointer (some ⟨yb, 0, none⟩), Value.pointer (some ⟨xb, 0, none⟩), _] w _
  go_enter Tryd.func64, Tryd.ntmps64
  go_wp2_with (first
    | (go_at_call 73; refine (hh _).mono ?_; rintro e w1 ⟨rfl, rfl⟩)
    | (go_at_call 52; refine (her _).mono ?_; rintro e w1 ⟨rfl, hg1, hy1⟩))
  go_ret
  exact ⟨rfl, gr_trans (gr_alloc _ _ _) hg1, hy1⟩

set_option maxRecDepth 100000 in
set_option maxHeartbeats 1000000 in
theorem made_snd_ok (w : World) (yb xb : Nat) (cv nv tv ov kv : Value) (p : Nat) (nm : List UInt8) (px : Nat) (n : Int) (id last site : Nat)
    (hy : w.heap[yb]? = some (.cells (tyCells cv nv tv ov 0 p) 57 (0, 0)))
    (hx : w.heap[xb]? = some (.cells (exCells Kw.snd.bytes px nm n kv id last site) 53 (0, 0)))
    (r : Nat) (a b : Ty) (hs : (Ty.p r a b).txt.length ≤ 100000) :
    Calls Tryd.prog 64 #[ptr yb, ptr xb, .agg #[.string (bs (Ty.p r a b).txt), .string (bs []), .string (bs [])]] w fun v w' => v = .returned (.string (bs b.txt)) ∧ w.grownBy w' (some yb) ∧ w'.heap[yb]? = some (.cells (tyCells cv nv tv ov 0 p) 57 (0, 0)) := by
  have x0 : w.cell? ⟨xb, 0, none⟩ = some (.string (bs Kw.snd.bytes)) := by rw [blk_cell hx]; rfl
  have hxb := blk_lt hx
  have HY : Hid _ := hy
  have HX : Hid _ := hx
  have q0 : ((bs Kw.snd.bytes).toList == [110, 101, 119]) = false := by rw [bs_beq0]; decide
  have q1 : ((bs Kw.snd.bytes).toList == [112, 97, 105, 114]) = false := by rw [bs_beq0]; decide
  have q2 : ((bs Kw.snd.bytes).toList == [102, 115, 116]) = false := by rw [bs_beq0]; decide
  have q3 : ((bs Kw.snd.bytes).toList == [115, 110, 100]) = true := by rw [bs_beq0]; decide
  have hh := fun w => halves_p r a b w hs
  clear hy hx
  show Calls _ _ #[Value.pointer (some ⟨yb, 0, none⟩), Value.pointer (some ⟨xb, 0, none⟩), _] w _
  go_enter Tryd.func64, Tryd.ntmps64
  go_wp2_with (go_at_call 73; refine (hh _).mono ?_; rintro e w1 ⟨rfl, n1, rfl⟩)
  go_ret
  exact ⟨rfl, made_ok HY.out⟩

set_option maxRecDepth 100000 in
set_option maxHeartbeats 1000000 in
theorem made_snd_no (w : World) (yb xb : Nat) (cv nv tv ov kv : Value) (p : Nat) (nm : List UInt8) (px : Nat) (n : Int) (id last site : Nat) (hne : xb ≠ yb)
    (hy : w.heap[yb]? = some (.cells (tyCells cv nv tv ov 0 p) 57 (0, 0)))
    (hx : w.heap[xb]? = some (.cells (exCells Kw.snd.bytes px nm n kv id last site) 53 (0, 0))) :
    Calls Tryd.prog 64 #[ptr yb, ptr xb, .agg #[.string (bs Ty.n.txt), .string (bs []), .string (bs [])]] w fun v w' => v = .returned (.string (bs [110])) ∧ w.grownBy w' (some yb) ∧ w'.heap[yb]? = some (.cells (tyCells cv nv tv ov 5 px) 57 (0, 0)) := by
  have x0 : w.cell? ⟨xb, 0, none⟩ = some (.string (bs Kw.snd.bytes)) := by rw [blk_cell hx]; rfl
  have hxb := blk_lt hx
  have HY : Hid _ := hy
  have HX : Hid _ := hx
  have q0 : ((bs Kw.snd.bytes).toList == [110, 101, 119]) = false := by rw [bs_beq0]; decide
  have q1 : ((bs Kw.snd.bytes).toList == [112, 97, 105, 114]) = false := by rw [bs_beq0]; decide
  have q2 : ((bs Kw.snd.bytes).toList == [102, 115, 116]) = false := by rw [bs_beq0]; decide
  have q3 : ((bs Kw.snd.bytes).toList == [115, 110, 100]) = true := by rw [bs_beq0]; decide
  have hh := fun w => halves_n w
  have her := fun (o : Obj) => err_any (w.alloc o) yb xb cv nv tv ov kv 0 p 5 _ nm px n id last site hne (blk_alloc o hy) (blk_alloc o hx)
  unfold ptr at her
  clear hy hx
  show Calls _ _ #[Value.pointer (some ⟨yb, 0, none⟩), Value.pointer (some ⟨xb, 0, none⟩), _] w _
  go_enter Tryd.func64, Tryd.ntmps64
  go_wp2_with (first
    | (go_at_call 73; refine (hh _).mono ?_; rintro e w1 ⟨rfl, rfl⟩)
    | (go_at_call 52; refine (her _).mono ?_; rintro e w1 ⟨rfl, hg1, hy1⟩))
  go_ret
  exact ⟨rfl, gr_trans (gr_alloc _ _ _) hg1, hy1⟩

set_option maxRecDepth 100000 in
set_option maxHeartbeats 1000000 in
theorem made_add_ok (w : World) (yb xb : Nat) (cv nv tv ov kv : Value) (p : Nat) (nm : List UInt8) (px : Nat) (n : Int) (id last site : Nat)
    (hy : w.heap[yb]? = some (.cells (tyCells cv nv tv ov 0 p) 57 (0, 0)))
    (hx : w.heap[xb]? = some (.cells (exCells Kw.add.bytes px nm n kv id last site) 53 (0, 0))) :
    Calls Tryd.prog 64 #[ptr yb, ptr xb, .agg #[.string (bs Ty.n.txt), .string (bs Ty.n.txt), .string (bs [])]] w fun v w' => v = .returned (.string (bs [110])) ∧ w.grownBy w' (some yb) ∧ w'.heap[yb]? = some (.cells (tyCells cv nv tv ov 0 p) 57 (0, 0)) := by
  have x0 : w.cell? ⟨xb, 0, none⟩ = some (.string (bs Kw.add.bytes)) := by rw [blk_cell hx]; rfl
  have hxb := blk_lt hx
  have HY : Hid _ := hy
  have HX : Hid _ := hx
  have q0 : ((bs Kw.add.bytes).toList == [110, 101, 119]) = false := by rw [bs_beq0]; decide
  have q1 : ((bs Kw.add.bytes).toList == [112, 97, 105, 114]) = false := by rw [bs_beq0]; decide
  have q2 : ((bs Kw.add.bytes).toList == [102, 115, 116]) = false := by rw [bs_beq0]; decide
  have q3 : ((bs Kw.add.bytes).toList == [115, 110, 100]) = false := by rw [bs_beq0]; decide
  have q4 : ((bs Kw.add.bytes).toList == [105, 102]) = false := by rw [bs_beq0]; decide
  have q5 : ((bs Kw.add.bytes).toList == [108, 111, 111, 112]) = false := by rw [bs_beq0]; decide
  have k0 : ((bs Ty.n.txt).toList == [110]) = true := by rw [bs_beq0]; decide
  have k1 : ((bs Ty.n.txt).toList == [110]) = true := by rw [bs_beq0]; decide
  have hh := fun w => halves_n w
  clear hy hx
  show Calls _ _ #[Value.pointer (some ⟨yb, 0, none⟩), Value.pointer (some ⟨xb, 0, none⟩), _] w _
  go_enter Tryd.func64, Tryd.ntmps64
  go_wp2_with (go_at_call 73; refine (hh _).mono ?_; rintro e w1 ⟨rfl, rfl⟩)
  go_ret
  exact ⟨rfl, made_ok (n := 0) HY.out⟩

set_option maxRecDepth 100000 in
set_option maxHeartbeats 1000000 in
theorem made_add_p (w : World) (yb xb : Nat) (cv nv tv ov kv : Value) (p : Nat) (nm : List UInt8) (px : Nat) (n : Int) (id last site : Nat) (hne : xb ≠ yb)
    (hy : w.heap[yb]? = some (.cells (tyCells cv nv tv ov 0 p) 57 (0, 0)))
    (hx : w.heap[xb]? = some (.cells (exCells Kw.add.bytes px nm n kv id last site) 53 (0, 0)))
    (r : Nat) (a b u : Ty) (hs : (Ty.p r a b).txt.length ≤ 100000) :
    Calls Tryd.prog 64 #[ptr yb, ptr xb, .agg #[.string (bs (Ty.p r a b).txt), .string (bs u.txt), .string (bs [])]] w fun v w' => v = .returned (.string (bs [110])) ∧ w.grownBy w' (some yb) ∧ w'.heap[yb]? = some (.cells (tyCells cv nv tv ov 5 px) 57 (0, 0)) := by
  have x0 : w.cell? ⟨xb, 0, none⟩ = some (.string (bs Kw.add.bytes)) := by rw [blk_cell hx]; rfl
  have hxb := blk_lt hx
  have HY : Hid _ := hy
  have HX : Hid _ := hx
  have q0 : ((bs Kw.add.bytes).toList == [110, 101, 119]) = false := by rw [bs_beq0]; decide
  have q1 : ((bs Kw.add.bytes).toList == [112, 97, 105, 114]) = false := by rw [bs_beq0]; decide
  have q2 : ((bs Kw.add.bytes).toList == [102, 115, 116]) = false := by rw [bs_beq0]; decide
  have q3 : ((bs Kw.add.bytes).toList == [115, 110, 100]) = false := by rw [bs_beq0]; decide
  have q4 : ((bs Kw.add.bytes).toList == [105, 102]) = false := by rw [bs_beq0]; decide
  have q5 : ((bs Kw.add.bytes).toList == [108, 111, 111, 112]) = false := by rw [bs_beq0]; decide
  have k0 : ((bs (Ty.p r a b).txt).toList == [110]) = false := by rw [bs_beq0]; simp [Ty.txt]
  have hh := fun w => halves_p r a b w hs
  have her := fun (o : Obj) (m : Nat) => err_any ((w.alloc o).drewN m) yb xb cv nv tv ov kv 0 p 5 _ nm px n id last site hne (blk_alloc o hy) (blk_alloc o hx)
  unfold ptr at her
  clear hy hx
  show Calls _ _ #[Value.pointer (some ⟨yb, 0, none⟩), Value.pointer (some ⟨xb, 0, none⟩), _] w _
  go_enter Tryd.func64, Tryd.ntmps64
  go_wp2_with (first
    | (go_at_call 73; refine (hh _).mono ?_; rintro e w1 ⟨rfl, n1, rfl⟩)
    | (go_at_call 52; refine (her _ _).mono ?_; rintro e w2 ⟨rfl, hg1, hy1⟩))
  go_ret
  exact ⟨rfl, gr_trans (grew_of (below_box _ _ n1) _) hg1, hy1⟩

set_option maxRecDepth 100000 in
set_option maxHeartbeats 1000000 in
theorem made_add_q (w : World) (yb xb : Nat) (cv nv tv ov kv : Value) (p : Nat) (nm : List UInt8) (px : Nat) (n : Int) (id last site : Nat) (hne : xb ≠ yb)
    (hy : w.heap[yb]? = some (.cells (tyCells cv nv tv ov 0 p) 57 (0, 0)))
    (hx : w.heap[xb]? = some (.cells (exCells Kw.add.bytes px nm n kv id last site) 53 (0, 0)))
    (r : Nat) (a b : Ty) :
    Calls Tryd.prog 64 #[ptr yb, ptr xb, .agg #[.string (bs Ty.n.txt), .string (bs (Ty.p r a b).txt), .string (bs [])]] w fun v w' => v = .returned (.string (bs [110])) ∧ w.grownBy w' (some yb) ∧ w'.heap[yb]? = some (.cells (tyCells cv nv tv ov 5 px) 57 (0, 0)) := by
  have x0 : w.cell? ⟨xb, 0, none⟩ = some (.string (bs Kw.add.bytes)) := by rw [blk_cell hx]; rfl
  have hxb := blk_lt hx
  have HY : Hid _ := hy
  have HX : Hid _ := hx
  have q0 : ((bs Kw.add.bytes).toList == [110, 101, 119]) = false := by rw [bs_beq0]; decide
  have q1 : ((bs Kw.add.bytes).toList == [112, 97, 105, 114]) = false := by rw [bs_beq0]; decide
  have q2 : ((bs Kw.add.bytes).toList == [102, 115, 116]) = false := by rw [bs_beq0]; decide
  have q3 : ((bs Kw.add.bytes).toList == [115, 110, 100]) = false := by rw [bs_beq0]; decide
  have q4 : ((bs Kw.add.bytes).toList == [105, 102]) = false := by rw [bs_beq0]; decide
  have q5 : ((bs Kw.add.bytes).toList == [108, 111, 111, 112]) = false := by rw [bs_beq0]; decide
  have k0 : ((bs Ty.n.txt).toList == [110]) = true := by rw [bs_beq0]; decide
  have k1 : ((bs (Ty.p r a b).txt).toList == [110]) = false := by rw [bs_beq0]; simp [Ty.txt]
  have hh := fun w => halves_n w
  have her := fun (o : Obj) => err_any (w.alloc o) yb xb cv nv tv ov kv 0 p 5 _ nm px n id last site hne (blk_alloc o hy) (blk_alloc o hx)
  unfold ptr at her
  clear hy hx
  show Calls _ _ #[Value.pointer (some ⟨yb, 0, none⟩), Value.pointer (some ⟨xb, 0, none⟩), _] w _
  go_enter Tryd.func64, Tryd.ntmps64
  go_wp2_with (first
    | (go_at_call 73; refine (hh _).mono ?_; rintro e w1 ⟨rfl, rfl⟩)
    | (go_at_call 52; refine (her _).mono ?_; rintro e w2 ⟨rfl, hg1, hy1⟩))
  go_ret
  exact ⟨rfl, gr_trans (grew_of (below_box _ _ 0) _) hg1, hy1⟩

set_option maxRecDepth 100000 in
set_option maxHeartbeats 1000000 in
theorem made_sub_ok (w : World) (yb xb : Nat) (cv nv tv ov kv : Value) (p : Nat) (nm : List UInt8) (px : Nat) (n : Int) (id last site : Nat)
    (hy : w.heap[yb]? = some (.cells (tyCells cv nv tv ov 0 p) 57 (0, 0)))
    (hx : w.heap[xb]? = some (.cells (exCells Kw.sub.bytes px nm n kv id last site) 53 (0, 0))) :
    Calls Tryd.prog 64 #[ptr yb, ptr xb, .agg #[.string (bs Ty.n.txt), .string (bs Ty.n.txt), .string (bs [])]] w fun v w' => v = .returned (.string (bs [110])) ∧ w.grownBy w' (some yb) ∧ w'.heap[yb]? = some (.cells (tyCells cv nv tv ov 0 p) 57 (0, 0)) := by
  have x0 : w.cell? ⟨xb, 0, none⟩ = some (.string (bs Kw.sub.bytes)) := by rw [blk_cell hx]; rfl
  have hxb := blk_lt hx
  have HY : Hid _ := hy
  have HX : Hid _ := hx
  have q0 : ((bs Kw.sub.bytes).toList == [110, 101, 119]) = false := by rw [bs_beq0]; decide
  have q1 : ((bs Kw.sub.bytes).toList == [112, 97, 105, 114]) = false := by rw [bs_beq0]; decide
  have q2 : ((bs Kw.sub.bytes).toList == [102, 115, 116]) = false := by rw [bs_beq0]; decide
  have q3 : ((bs Kw.sub.bytes).toList == [115, 110, 100]) = false := by rw [bs_beq0]; decide
  have q4 : ((bs Kw.sub.bytes).toList == [105, 102]) = false := by rw [bs_beq0]; decide
  have q5 : ((bs Kw.sub.bytes).toList == [108, 111, 111, 112]) = false := by rw [bs_beq0]; decide
  have k0 : ((bs Ty.n.txt).toList == [110]) = true := by rw [bs_beq0]; decide
  have k1 : ((bs Ty.n.txt).toList == [110]) = true := by rw [bs_beq0]; decide
  have hh := fun w => halves_n w
  clear hy hx
  show Calls _ _ #[Value.pointer (some ⟨yb, 0, none⟩), Value.pointer (some ⟨xb, 0, none⟩), _] w _
  go_enter Tryd.func64, Tryd.ntmps64
  go_wp2_with (go_at_call 73; refine (hh _).mono ?_; rintro e w1 ⟨rfl, rfl⟩)
  go_ret
  exact ⟨rfl, made_ok (n := 0) HY.out⟩

set_option maxRecDepth 100000 in
set_option maxHeartbeats 1000000 in
theorem made_sub_p (w : World) (yb xb : Nat) (cv nv tv ov kv : Value) (p : Nat) (nm : List UInt8) (px : Nat) (n : Int) (id last site : Nat) (hne : xb ≠ yb)
    (hy : w.heap[yb]? = some (.cells (tyCells cv nv tv ov 0 p) 57 (0, 0)))
    (hx : w.heap[xb]? = some (.cells (exCells Kw.sub.bytes px nm n kv id last site) 53 (0, 0)))
    (r : Nat) (a b u : Ty) (hs : (Ty.p r a b).txt.length ≤ 100000) :
    Calls Tryd.prog 64 #[ptr yb, ptr xb, .agg #[.string (bs (Ty.p r a b).txt), .string (bs u.txt), .string (bs [])]] w fun v w' => v = .returned (.string (bs [110])) ∧ w.grownBy w' (some yb) ∧ w'.heap[yb]? = some (.cells (tyCells cv nv tv ov 5 px) 57 (0, 0)) := by
  have x0 : w.cell? ⟨xb, 0, none⟩ = some (.string (bs Kw.sub.bytes)) := by rw [blk_cell hx]; rfl
  have hxb := blk_lt hx
  have HY : Hid _ := hy
  have HX : Hid _ := hx
  have q0 : ((bs Kw.sub.bytes).toList == [110, 101, 119]) = false := by rw [bs_beq0]; decide
  have q1 : ((bs Kw.sub.bytes).toList == [112, 97, 105, 114]) = false := by rw [bs_beq0]; decide
  have q2 : ((bs Kw.sub.bytes).toList == [102, 115, 116]) = false := by rw [bs_beq0]; decide
  have q3 : ((bs Kw.sub.bytes).toList == [115, 110, 100]) = false := by rw [bs_beq0]; decide
  have q4 : ((bs Kw.sub.bytes).toList == [105, 102]) = false := by rw [bs_beq0]; decide
  have q5 : ((bs Kw.sub.bytes).toList == [108, 111, 111, 112]) = false := by rw [bs_beq0]; decide
  have k0 : ((bs (Ty.p r a b).txt).toList == [110]) = false := by rw [bs_beq0]; simp [Ty.txt]
  have hh := fun w => halves_p r a b w hs
  have her := fun (o : Obj) (m : Nat) => err_any ((w.alloc o).drewN m) yb xb cv nv tv ov kv 0 p 5 _ nm px n id last site hne (blk_alloc o hy) (blk_alloc o hx)
  unfold ptr at her
  clear hy hx
  show Calls _ _ #[Value.pointer (some ⟨yb, 0, none⟩), Value.pointer (some ⟨xb, 0, none⟩), _] w _
  go_enter Tryd.func64, Tryd.ntmps64
  go_wp2_with (first
    | (go_at_call 73; refine (hh _).mono ?_; rintro e w1 ⟨rfl, n1, rfl⟩)
    | (go_at_call 52; refine (her _ _).mono ?_; rintro e w2 ⟨rfl, hg1, hy1⟩))
  go_ret
  exact ⟨rfl, gr_trans (grew_of (below_box _ _ n1) _) hg1, hy1⟩

set_option maxRecDepth 100000 in
set_option maxHeartbeats 1000000 in
theorem made_sub_q (w : World) (yb xb : Nat) (cv nv tv ov kv : Value) (p : Nat) (nm : List UInt8) (px : Nat) (n : Int) (id last site : Nat) (hne : xb ≠ yb)
    (hy : w.heap[yb]? = some (.cells (tyCells cv nv tv ov 0 p) 57 (0, 0)))
    (hx : w.heap[xb]? = some (.cells (exCells Kw.sub.bytes px nm n kv id last site) 53 (0, 0)))
    (r : Nat) (a b : Ty) :
    Calls Tryd.prog 64 #[ptr yb, ptr xb, .agg #[.string (bs Ty.n.txt), .string (bs (Ty.p r a b).txt), .string (bs [])]] w fun v w' => v = .returned (.string (bs [110])) ∧ w.grownBy w' (some yb) ∧ w'.heap[yb]? = some (.cells (tyCells cv nv tv ov 5 px) 57 (0, 0)) := by
  have x0 : w.cell? ⟨xb, 0, none⟩ = some (.string (bs Kw.sub.bytes)) := by rw [blk_cell hx]; rfl
  have hxb := blk_lt hx
  have HY : Hid _ := hy
  have HX : Hid _ := hx
  have q0 : ((bs Kw.sub.bytes).toList == [110, 101, 119]) = false := by rw [bs_beq0]; decide
  have q1 : ((bs Kw.sub.bytes).toList == [112, 97, 105, 114]) = false := by rw [bs_beq0]; decide
  have q2 : ((bs Kw.sub.bytes).toList == [102, 115, 116]) = false := by rw [bs_beq0]; decide
  have q3 : ((bs Kw.sub.bytes).toList == [115, 110, 100]) = false := by rw [bs_beq0]; decide
  have q4 : ((bs Kw.sub.bytes).toList == [105, 102]) = false := by rw [bs_beq0]; decide
  have q5 : ((bs Kw.sub.bytes).toList == [108, 111, 111, 112]) = false := by rw [bs_beq0]; decide
  have k0 : ((bs Ty.n.txt).toList == [110]) = true := by rw [bs_beq0]; decide
  have k1 : ((bs (Ty.p r a b).txt).toList == [110]) = false := by rw [bs_beq0]; simp [Ty.txt]
  have hh := fun w => halves_n w
  have her := fun (o : Obj) => err_any (w.alloc o) yb xb cv nv tv ov kv 0 p 5 _ nm px n id last site hne (blk_alloc o hy) (blk_alloc o hx)
  unfold ptr at her
  clear hy hx
  show Calls _ _ #[Value.pointer (some ⟨yb, 0, none⟩), Value.pointer (some ⟨xb, 0, none⟩), _] w _
  go_enter Tryd.func64, Tryd.ntmps64
  go_wp2_with (first
    | (go_at_call 73; refine (hh _).mono ?_; rintro e w1 ⟨rfl, rfl⟩)
    | (go_at_call 52; refine (her _).mono ?_; rintro e w2 ⟨rfl, hg1, hy1⟩))
  go_ret
  exact ⟨rfl, gr_trans (grew_of (below_box _ _ 0) _) hg1, hy1⟩

set_option maxRecDepth 100000 in
set_option maxHeartbeats 1000000 in
theorem made_less_ok (w : World) (yb xb : Nat) (cv nv tv ov kv : Value) (p : Nat) (nm : List UInt8) (px : Nat) (n : Int) (id last site : Nat)
    (hy : w.heap[yb]? = some (.cells (tyCells cv nv tv ov 0 p) 57 (0, 0)))
    (hx : w.heap[xb]? = some (.cells (exCells Kw.less.bytes px nm n kv id last site) 53 (0, 0))) :
    Calls Tryd.prog 64 #[ptr yb, ptr xb, .agg #[.string (bs Ty.n.txt), .string (bs Ty.n.txt), .string (bs [])]] w fun v w' => v = .returned (.string (bs [110])) ∧ w.grownBy w' (some yb) ∧ w'.heap[yb]? = some (.cells (tyCells cv nv tv ov 0 p) 57 (0, 0)) := by
  have x0 : w.cell? ⟨xb, 0, none⟩ = some (.string (bs Kw.less.bytes)) := by rw [blk_cell hx]; rfl
  have hxb := blk_lt hx
  have HY : Hid _ := hy
  have HX : Hid _ := hx
  have q0 : ((bs Kw.less.bytes).toList == [110, 101, 119]) = false := by rw [bs_beq0]; decide
  have q1 : ((bs Kw.less.bytes).toList == [112, 97, 105, 114]) = false := by rw [bs_beq0]; decide
  have q2 : ((bs Kw.less.bytes).toList == [102, 115, 116]) = false := by rw [bs_beq0]; decide
  have q3 : ((bs Kw.less.bytes).toList == [115, 110, 100]) = false := by rw [bs_beq0]; decide
  have q4 : ((bs Kw.less.bytes).toList == [105, 102]) = false := by rw [bs_beq0]; decide
  have q5 : ((bs Kw.less.bytes).toList == [108, 111, 111, 112]) = false := by rw [bs_beq0]; decide
  have k0 : ((bs Ty.n.txt).toList == [110]) = true := by rw [bs_beq0]; decide
  have k1 : ((bs Ty.n.txt).toList == [110]) = true := by rw [bs_beq0]; decide
  have hh := fun w => halves_n w
  clear hy hx
  show Calls _ _ #[Value.pointer (some ⟨yb, 0, none⟩), Value.pointer (some ⟨xb, 0, none⟩), _] w _
  go_enter Tryd.func64, Tryd.ntmps64
  go_wp2_with (go_at_call 73; refine (hh _).mono ?_; rintro e w1 ⟨rfl, rfl⟩)
  go_ret
  exact ⟨rfl, made_ok (n := 0) HY.out⟩

set_option maxRecDepth 100000 in
set_option maxHeartbeats 1000000 in
theorem made_less_p (w : World) (yb xb : Nat) (cv nv tv ov kv : Value) (p : Nat) (nm : List UInt8) (px : Nat) (n : Int) (id last site : Nat) (hne : xb ≠ yb)
    (hy : w.heap[yb]? = some (.cells (tyCells cv nv tv ov 0 p) 57 (0, 0)))
    (hx : w.heap[xb]? = some (.cells (exCells Kw.less.bytes px nm n kv id last site) 53 (0, 0)))
    (r : Nat) (a b u : Ty) (hs : (Ty.p r a b).txt.length ≤ 100000) :
    Calls Tryd.prog 64 #[ptr yb, ptr xb, .agg #[.string (bs (Ty.p r a b).txt), .string (bs u.txt), .string (bs [])]] w fun v w' => v = .returned (.string (bs [110])) ∧ w.grownBy w' (some yb) ∧ w'.heap[yb]? = some (.cells (tyCells cv nv tv ov 5 px) 57 (0, 0)) := by
  have x0 : w.cell? ⟨xb, 0, none⟩ = some (.string (bs Kw.less.bytes)) := by rw [blk_cell hx]; rfl
  have hxb := blk_lt hx
  have HY : Hid _ := hy
  have HX : Hid _ := hx
  have q0 : ((bs Kw.less.bytes).toList == [110, 101, 119]) = false := by rw [bs_beq0]; decide
  have q1 : ((bs Kw.less.bytes).toList == [112, 97, 105, 114]) = false := by rw [bs_beq0]; decide
  have q2 : ((bs Kw.less.bytes).toList == [102, 115, 116]) = false := by rw [bs_beq0]; decide
  have q3 : ((bs Kw.less.bytes).toList == [115, 110, 100]) = false := by rw [bs_beq0]; decide
  have q4 : ((bs Kw.less.bytes).toList == [105, 102]) = false := by rw [bs_beq0]; decide
  have q5 : ((bs Kw.less.bytes).toList == [108, 111, 111, 112]) = false := by rw [bs_beq0]; decide
  have k0 : ((bs (Ty.p r a b).txt).toList == [110]) = false := by rw [bs_beq0]; simp [Ty.txt]
  have hh := fun w => halves_p r a b w hs
  have her := fun (o : Obj) (m : Nat) => err_any ((w.alloc o).drewN m) yb xb cv nv tv ov kv 0 p 5 _ nm px n id last site hne (blk_alloc o hy) (blk_alloc o hx)
  unfold ptr at her
  clear hy hx
  show Calls _ _ #[Value.pointer (some ⟨yb, 0, none⟩), Value.pointer (some ⟨xb, 0, none⟩), _] w _
  go_enter Tryd.func64, Tryd.ntmps64
  go_wp2_with (first
    | (go_at_call 73; refine (hh _).mono ?_; rintro e w1 ⟨rfl, n1, rfl⟩)
    | (go_at_call 52; refine (her _ _).mono ?_; rintro e w2 ⟨rfl, hg1, hy1⟩))
  go_ret
  exact ⟨rfl, gr_trans (grew_of (below_box _ _ n1) _) hg1, hy1⟩

set_option maxRecDepth 100000 in
set_option maxHeartbeats 1000000 in
theorem made_less_q (w : World) (yb xb : Nat) (cv nv tv ov kv : Value) (p : Nat) (nm : List UInt8) (px : Nat) (n : Int) (id last site : Nat) (hne : xb ≠ yb)
    (hy : w.heap[yb]? = some (.cells (tyCells cv nv tv ov 0 p) 57 (0, 0)))
    (hx : w.heap[xb]? = some (.cells (exCells Kw.less.bytes px nm n kv id last site) 53 (0, 0)))
    (r : Nat) (a b : Ty) :
    Calls Tryd.prog 64 #[ptr yb, ptr xb, .agg #[.string (bs Ty.n.txt), .string (bs (Ty.p r a b).txt), .string (bs [])]] w fun v w' => v = .returned (.string (bs [110])) ∧ w.grownBy w' (some yb) ∧ w'.heap[yb]? = some (.cells (tyCells cv nv tv ov 5 px) 57 (0, 0)) := by
  have x0 : w.cell? ⟨xb, 0, none⟩ = some (.string (bs Kw.less.bytes)) := by rw [blk_cell hx]; rfl
  have hxb := blk_lt hx
  have HY : Hid _ := hy
  have HX : Hid _ := hx
  have q0 : ((bs Kw.less.bytes).toList == [110, 101, 119]) = false := by rw [bs_beq0]; decide
  have q1 : ((bs Kw.less.bytes).toList == [112, 97, 105, 114]) = false := by rw [bs_beq0]; decide
  have q2 : ((bs Kw.less.bytes).toList == [102, 115, 116]) = false := by rw [bs_beq0]; decide
  have q3 : ((bs Kw.less.bytes).toList == [115, 110, 100]) = false := by rw [bs_beq0]; decide
  have q4 : ((bs Kw.less.bytes).toList == [105, 102]) = false := by rw [bs_beq0]; decide
  have q5 : ((bs Kw.less.bytes).toList == [108, 111, 111, 112]) = false := by rw [bs_beq0]; decide
  have k0 : ((bs Ty.n.txt).toList == [110]) = true := by rw [bs_beq0]; decide
  have k1 : ((bs (Ty.p r a b).txt).toList == [110]) = false := by rw [bs_beq0]; simp [Ty.txt]
  have hh := fun w => halves_n w
  have her := fun (o : Obj) => err_any (w.alloc o) yb xb cv nv tv ov kv 0 p 5 _ nm px n id last site hne (blk_alloc o hy) (blk_alloc o hx)
  unfold ptr at her
  clear hy hx
  show Calls _ _ #[Value.pointer (some ⟨yb, 0, none⟩), Value.pointer (some ⟨xb, 0, none⟩), _] w _
  go_enter Tryd.func64, Tryd.ntmps64
  go_wp2_with (first
    | (go_at_call 73; refine (hh _).mono ?_; rintro e w1 ⟨rfl, rfl⟩)
    | (go_at_call 52; refine (her _).mono ?_; rintro e w2 ⟨rfl, hg1, hy1⟩))
  go_ret
  exact ⟨rfl, gr_trans (grew_of (below_box _ _ 0) _) hg1, hy1⟩

end Go.Proofs.YtfnplohaokeljaaDoor

namespace Go.Proofs.YtfnplohaokeljaaDoor
open Go.RowKit
open Go.Lib (decDigits)

theorem pairOf_q (r : Nat) (a b : Ty) (w : World) (hr : r < 100) (hs : a.txt.length + b.txt.length ≤ 90000) : Calls Tryd.prog 74 #[.int .i64 r, .string (bs a.txt), .string (bs b.txt)] w fun e w' => e = .returned (.string (bs (Ty.p r a b).txt)) ∧ ∃ n, w' = w.drewN n :=
  (pairOf_any r a b w hr hs).mono (by rintro e w' ⟨rfl, rfl⟩; exact ⟨rfl, 0, rfl⟩)
theorem halves_t (t : Ty) (w : World) (hs : t.txt.length ≤ 100000) : Calls Tryd.prog 73 #[.string (bs t.txt)] w fun e w' => ∃ x y c, e = .returned (.tuple #[.string x, .string y, .bool c]) ∧ ∃ n, w' = w.drewN n := by
  cases t with
  | n => exact (halves_n w).mono (by rintro e w' ⟨rfl, rfl⟩; exact ⟨_, _, _, rfl, 0, rfl⟩)
  | p r a b => exact (halves_p r a b w hs).mono (by rintro e w' ⟨rfl, n, rfl⟩; exact ⟨_, _, _, rfl, n, rfl⟩)

set_option maxRecDepth 100000 in
set_option maxHeartbeats 1000000 in
theorem made_new (w : World) (yb xb : Nat) (cv nv tv ov kv : Value) (p : Nat) (nm : List UInt8) (px : Nat) (n : Int) (id last site : Nat)
    (hy : w.heap[yb]? = some (.cells (tyCells cv nv tv ov 0 p) 57 (0, 0)))
    (hx : w.heap[xb]? = some (.cells (exCells Kw.new.bytes px nm n kv id last site) 53 (0, 0)))
    (a : Ty) (hs : a.txt.length ≤ 100000) :
    Calls Tryd.prog 64 #[ptr yb, ptr xb, .agg #[.string (bs a.txt), .string (bs []), .string (bs [])]] w fun v w' => v = .returned (.string (bs a.txt)) ∧ w.grownBy w' (some yb) ∧ w'.heap[yb]? = some (.cells (tyCells cv nv tv ov 0 p) 57 (0, 0)) := by
  have x0 : w.cell? ⟨xb, 0, none⟩ = some (.string (bs Kw.new.bytes)) := by rw [blk_cell hx]; rfl
  have hxb := blk_lt hx
  have hyb := blk_lt hy
  have HY : Hid _ := hy
  have HX : Hid _ := hx
  have q0 : ((bs Kw.new.bytes).toList == [110, 101, 119]) = true := by rw [bs_beq0]; decide
  have hh := fun w => halves_t a w hs
  clear hy hx
  show Calls _ _ #[Value.pointer (some ⟨yb, 0, none⟩), Value.pointer (some ⟨xb, 0, none⟩), _] w _
  go_enter Tryd.func64, Tryd.ntmps64
  go_wp2_with (go_at_call 73; refine (hh _).mono ?_; rintro e w1 ⟨_, _, _, rfl, n1, rfl⟩)
  go_ret
  exact ⟨rfl, made_ok HY.out⟩

set_option maxRecDepth 100000 in
set_option maxHeartbeats 1000000 in
theorem made_pair (w : World) (gc cl cc yb xb : Nat) (nv tv ov kv : Value) (p : Nat) (nm : List UInt8) (px : Nat) (n : Int) (id last site : Nat)
    (hy : w.heap[yb]? = some (.cells (tyCells (.slice (some ⟨gc, 0, none⟩) cl cc) nv tv ov 0 p) 57 (0, 0)))
    (hx : w.heap[xb]? = some (.cells (exCells Kw.pair.bytes px nm n kv id last site) 53 (0, 0)))
    (r : Nat) (a b : Ty) (hr : r < 100) (hs : a.txt.length + b.txt.length ≤ 90000) (hsl : site < cl) (_hcl : cl ≤ 9000) (hcell : w.cell? ⟨gc, site, none⟩ = some (.int .i64 r)) :
    Calls Tryd.prog 64 #[ptr yb, ptr xb, .agg #[.string (bs a.txt), .string (bs b.txt), .string (bs [])]] w fun v w' => v = .returned (.string (bs (Ty.p r a b).txt)) ∧ w.grownBy w' (some yb) ∧ w'.heap[yb]? = some (.cells (tyCells (.slice (some ⟨gc, 0, none⟩) cl cc) nv tv ov 0 p) 57 (0, 0)) := by
  have x0 : w.cell? ⟨xb, 0, none⟩ = some (.string (bs Kw.pair.bytes)) := by rw [blk_cell hx]; rfl
  have hxb := blk_lt hx
  have hyb := blk_lt hy
  have HY : Hid _ := hy
  have HX : Hid _ := hx
  have q0 : ((bs Kw.pair.bytes).toList == [110, 101, 119]) = false := by rw [bs_beq0]; decide
  have q1 : ((bs Kw.pair.bytes).toList == [112, 97, 105, 114]) = true := by rw [bs_beq0]; decide
  have hh := fun w => halves_t a w (by omega)
  have hpo := fun w => pairOf_q r a b w hr hs
  have x7 : w.cell? ⟨xb, 7, none⟩ = some (.int .i64 site) := by rw [blk_cell hx]; rfl
  have y0 : w.cell? ⟨yb, 0, none⟩ = some (.slice (some ⟨gc, 0, none⟩) cl cc) := by rw [blk_cell hy]; rfl
  have hgc : gc < w.heap.size := World.block_lt_of_cell? _ _ hcell
  clear hy hx
  show Calls _ _ #[Value.pointer (some ⟨yb, 0, none⟩), Value.pointer (some ⟨xb, 0, none⟩), _] w _
  go_enter Tryd.func64, Tryd.ntmps64
  go_wp2_with (go_at_call 73; refine (hh _).mono ?_; rintro e w1 ⟨_, _, _, rfl, n1, hw1⟩; have hcw : ∀ ad, w1.cell? ad = (w.alloc (Obj.cells #[Value.string (bs a.txt), Value.string (bs b.txt), Value.string (bs [])] 119)).cell? ad := (fun ad => by rw [hw1]; rfl); have HW1 : Hid (w1 = (w.alloc (Obj.cells #[Value.string (bs a.txt), Value.string (bs b.txt), Value.string (bs [])] 119)).drewN n1) := hw1; clear hw1)
  go_quiet ((go_at_call 74; exact Calls.quiet_of (hpo _)))
  go_wp2
  go_ret
  rw [HW1.out, World.drewN_drewN]
  exact ⟨rfl, made_ok HY.out⟩

set_option maxRecDepth 100000 in
set_option maxHeartbeats 1000000 in
theorem made_if__ok (w : World) (yb xb : Nat) (cv nv tv ov kv : Value) (p : Nat) (nm : List UInt8) (px : Nat) (n : Int) (id last site : Nat)
    (hy : w.heap[yb]? = some (.cells (tyCells cv nv tv ov 0 p) 57 (0, 0)))
    (hx : w.heap[xb]? = some (.cells (exCells Kw.if_.bytes px nm n kv id last site) 53 (0, 0)))
    (b c : Ty) (hb : b.txt.length ≤ 100000) (hc : c.txt.length ≤ 100000) (heq : b.bare = c.bare) :
    Calls Tryd.prog 64 #[ptr yb, ptr xb, .agg #[.string (bs Ty.n.txt), .string (bs b.txt), .string (bs c.txt)]] w fun v w' => v = .returned (.string (bs b.txt)) ∧ w.grownBy w' (some yb) ∧ w'.heap[yb]? = some (.cells (tyCells cv nv tv ov 0 p) 57 (0, 0)) := by
  have x0 : w.cell? ⟨xb, 0, none⟩ = some (.string (bs Kw.if_.bytes)) := by rw [blk_cell hx]; rfl
  have hxb := blk_lt hx
  have hyb := blk_lt hy
  have HY : Hid _ := hy
  have HX : Hid _ := hx
  have q0 : ((bs Kw.if_.bytes).toList == [110, 101, 119]) = false := by rw [bs_beq0]; decide
  have q1 : ((bs Kw.if_.bytes).toList == [112, 97, 105, 114]) = false := by rw [bs_beq0]; decide
  have q2 : ((bs Kw.if_.bytes).toList == [102, 115, 116]) = false := by rw [bs_beq0]; decide
  have q3 : ((bs Kw.if_.bytes).toList == [115, 110, 100]) = false := by rw [bs_beq0]; decide
  have q4 : ((bs Kw.if_.bytes).toList == [105, 102]) = true := by rw [bs_beq0]; decide
  have hh := fun w => halves_n w
  have hpb := fun w => plain_any b w hb
  have hpc := fun w => plain_any c w hc
  have k0 : ((bs Ty.n.txt).toList == [110]) = true := by rw [bs_beq0]; decide
  have ke : ((bs b.plain).toList == (bs c.plain).toList) = true := by rw [(plain_inj b c).2 heq]; simp
  clear hy hx heq
  show Calls _ _ #[Value.pointer (some ⟨yb, 0, none⟩), Value.pointer (some ⟨xb, 0, none⟩), _] w _
  go_enter Tryd.func64, Tryd.ntmps64
  go_wp2_with (go_at_call 73; refine (hh _).mono ?_; rintro e w1 ⟨rfl, rfl⟩)
  go_quiet (first | (go_at_call_of 75 (Value.string (bs b.txt)); exact Calls.quiet_of (hpb _)) | (go_at_call_of 75 (Value.string (bs c.txt)); exact Calls.quiet_of (hpc _)))
  go_wp2
  go_ret
  exact ⟨rfl, made_ok HY.out⟩

set_option maxRecDepth 100000 in
set_option maxHeartbeats 1000000 in
theorem made_if__no (w : World) (yb xb : Nat) (cv nv tv ov kv : Value) (p : Nat) (nm : List UInt8) (px : Nat) (n : Int) (id last site : Nat) (hne : xb ≠ yb)
    (hy : w.heap[yb]? = some (.cells (tyCells cv nv tv ov 0 p) 57 (0, 0)))
    (hx : w.heap[xb]? = some (.cells (exCells Kw.if_.bytes px nm n kv id last site) 53 (0, 0)))
    (b c : Ty) (hb : b.txt.length ≤ 100000) (hc : c.txt.length ≤ 100000) (heq : ¬ b.bare = c.bare) :
    Calls Tryd.prog 64 #[ptr yb, ptr xb, .agg #[.string (bs Ty.n.txt), .string (bs b.txt), .string (bs c.txt)]] w fun v w' => v = .returned (.string (bs [110])) ∧ w.grownBy w' (some yb) ∧ w'.heap[yb]? = some (.cells (tyCells cv nv tv ov 5 px) 57 (0, 0)) := by
  have x0 : w.cell? ⟨xb, 0, none⟩ = some (.string (bs Kw.if_.bytes)) := by rw [blk_cell hx]; rfl
  have hxb := blk_lt hx
  have hyb := blk_lt hy
  have HY : Hid _ := hy
  have HX : Hid _ := hx
  have q0 : ((bs Kw.if_.bytes).toList == [110, 101, 119]) = false := by rw [bs_beq0]; decide
  have q1 : ((bs Kw.if_.bytes).toList == [112, 97, 105, 114]) = false := by rw [bs_beq0]; decide
  have q2 : ((bs Kw.if_.bytes).toList == [102, 115, 116]) = false := by rw [bs_beq0]; decide
  have q3 : ((bs Kw.if_.bytes).toList == [115, 110, 100]) = false := by rw [bs_beq0]; decide
  have q4 : ((bs Kw.if_.bytes).toList == [105, 102]) = true := by rw [bs_beq0]; decide
  have hh := fun w => halves_n w
  have hpb := fun w => plain_any b w hb
  have hpc := fun w => plain_any c w hc
  have k0 : ((bs Ty.n.txt).toList == [110]) = true := by rw [bs_beq0]; decide
  have ke : ((bs b.plain).toList == (bs c.plain).toList) = false := by
    rw [Lib.toList_data, Lib.toList_data, bs_toList, bs_toList, beq_eq_false_iff_ne]; exact fun h => heq ((plain_inj b c).1 h)
  have her := fun (o : Obj) (m : Nat) => err_any ((w.alloc o).drewN m) yb xb cv nv tv ov kv 0 p 5 _ nm px n id last site hne (blk_alloc o hy) (blk_alloc o hx)
  unfold ptr at her
  clear hy hx heq
  show Calls _ _ #[Value.pointer (some ⟨yb, 0, none⟩), Value.pointer (some ⟨xb, 0, none⟩), _] w _
  go_enter Tryd.func64, Tryd.ntmps64
  go_wp2_with (go_at_call 73; refine (hh _).mono ?_; rintro e w1 ⟨rfl, rfl⟩)
  go_quiet (first | (go_at_call_of 75 (Value.string (bs b.txt)); exact Calls.quiet_of (hpb _)) | (go_at_call_of 75 (Value.string (bs c.txt)); exact Calls.quiet_of (hpc _)))
  go_wp2_with (go_at_call 52; refine (her _ _).mono ?_; rintro e w2 ⟨rfl, hg1, hy1⟩)
  go_ret
  exact ⟨rfl, gr_trans (grew_of (below_box _ _ _) _) hg1, hy1⟩

set_option maxRecDepth 100000 in
set_option maxHeartbeats 1000000 in
theorem made_if__p (w : World) (yb xb : Nat) (cv nv tv ov kv : Value) (p : Nat) (nm : List UInt8) (px : Nat) (n : Int) (id last site : Nat) (hne : xb ≠ yb)
    (hy : w.heap[yb]? = some (.cells (tyCells cv nv tv ov 0 p) 57 (0, 0)))
    (hx : w.heap[xb]? = some (.cells (exCells Kw.if_.bytes px nm n kv id last site) 53 (0, 0)))
    (r : Nat) (a a' : Ty) (hs : (Ty.p r a a').txt.length ≤ 100000) (b c : ByteArray) :
    Calls Tryd.prog 64 #[ptr yb, ptr xb, .agg #[.string (bs (Ty.p r a a').txt), .string b, .string c]] w fun v w' => v = .returned (.string (bs [110])) ∧ w.grownBy w' (some yb) ∧ w'.heap[yb]? = some (.cells (tyCells cv nv tv ov 5 px) 57 (0, 0)) := by
  have x0 : w.cell? ⟨xb, 0, none⟩ = some (.string (bs Kw.if_.bytes)) := by rw [blk_cell hx]; rfl
  have hxb := blk_lt hx
  have hyb := blk_lt hy
  have HY : Hid _ := hy
  have HX : Hid _ := hx
  have q0 : ((bs Kw.if_.bytes).toList == [110, 101, 119]) = false := by rw [bs_beq0]; decide
  have q1 : ((bs Kw.if_.bytes).toList == [112, 97, 105, 114]) = false := by rw [bs_beq0]; decide
  have q2 : ((bs Kw.if_.bytes).toList == [102, 115, 116]) = false := by rw [bs_beq0]; decide
  have q3 : ((bs Kw.if_.bytes).toList == [115, 110, 100]) = false := by rw [bs_beq0]; decide
  have q4 : ((bs Kw.if_.bytes).toList == [105, 102]) = true := by rw [bs_beq0]; decide
  have hh := fun w => halves_p r a a' w hs
  have k0 : ((bs (Ty.p r a a').txt).toList == [110]) = false := by rw [bs_beq0]; simp [Ty.txt]
  have her := fun (o : Obj) (m : Nat) => err_any ((w.alloc o).drewN m) yb xb cv nv tv ov kv 0 p 5 _ nm px n id last site hne (blk_alloc o hy) (blk_alloc o hx)
  unfold ptr at her
  clear hy hx
  show Calls _ _ #[Value.pointer (some ⟨yb, 0, none⟩), Value.pointer (some ⟨xb, 0, none⟩), _] w _
  go_enter Tryd.func64, Tryd.ntmps64
  go_wp2_with (go_at_call 73; refine (hh _).mono ?_; rintro e w1 ⟨rfl, n1, rfl⟩)
  go_quiet (fail)
  go_wp2_with (go_at_call 52; refine (her _ _).mono ?_; rintro e w2 ⟨rfl, hg1, hy1⟩)
  go_ret
  exact ⟨rfl, gr_trans (grew_of (below_box _ _ _) _) hg1, hy1⟩

set_option maxRecDepth 100000 in
set_option maxHeartbeats 1000000 in
theorem made_loop_ok (w : World) (yb xb : Nat) (cv nv tv ov kv : Value) (p : Nat) (nm : List UInt8) (px : Nat) (n : Int) (id last site : Nat)
    (hy : w.heap[yb]? = some (.cells (tyCells cv nv tv ov 0 p) 57 (0, 0)))
    (hx : w.heap[xb]? = some (.cells (exCells Kw.loop.bytes px nm n kv id last site) 53 (0, 0)))
    (b c : Ty) (hb : b.txt.length ≤ 100000) (hc : c.txt.length ≤ 100000) (heq : b.bare = c.bare) :
    Calls Tryd.prog 64 #[ptr yb, ptr xb, .agg #[.string (bs Ty.n.txt), .string (bs b.txt), .string (bs c.txt)]] w fun v w' => v = .returned (.string (bs b.txt)) ∧ w.grownBy w' (some yb) ∧ w'.heap[yb]? = some (.cells (tyCells cv nv tv ov 0 p) 57 (0, 0)) := by
  have x0 : w.cell? ⟨xb, 0, none⟩ = some (.string (bs Kw.loop.bytes)) := by rw [blk_cell hx]; rfl
  have hxb := blk_lt hx
  have hyb := blk_lt hy
  have HY : Hid _ := hy
  have HX : Hid _ := hx
  have q0 : ((bs Kw.loop.bytes).toList == [110, 101, 119]) = false := by rw [bs_beq0]; decide
  have q1 : ((bs Kw.loop.bytes).toList == [112, 97, 105, 114]) = false := by rw [bs_beq0]; decide
  have q2 : ((bs Kw.loop.bytes).toList == [102, 115, 116]) = false := by rw [bs_beq0]; decide
  have q3 : ((bs Kw.loop.bytes).toList == [115, 110, 100]) = false := by rw [bs_beq0]; decide
  have q4 : ((bs Kw.loop.bytes).toList == [105, 102]) = false := by rw [bs_beq0]; decide
  have q5 : ((bs Kw.loop.bytes).toList == [108, 111, 111, 112]) = true := by rw [bs_beq0]; decide
  have hh := fun w => halves_n w
  have hpb := fun w => plain_any b w hb
  have hpc := fun w => plain_any c w hc
  have k0 : ((bs Ty.n.txt).toList == [110]) = true := by rw [bs_beq0]; decide
  have ke : ((bs b.plain).toList == (bs c.plain).toList) = true := by rw [(plain_inj b c).2 heq]; simp
  clear hy hx heq
  show Calls _ _ #[Value.pointer (some ⟨yb, 0, none⟩), Value.pointer (some ⟨xb, 0, none⟩), _] w _
  go_enter Tryd.func64, Tryd.ntmps64
  go_wp2_with (go_at_call 73; refine (hh _).mono ?_; rintro e w1 ⟨rfl, rfl⟩)
  go_quiet (first | (go_at_call_of 75 (Value.string (bs b.txt)); exact Calls.quiet_of (hpb _)) | (go_at_call_of 75 (Value.string (bs c.txt)); exact Calls.quiet_of (hpc _)))
  go_wp2
  go_ret
  exact ⟨rfl, made_ok HY.out⟩

set_option maxRecDepth 100000 in
set_option maxHeartbeats 1000000 in
theorem made_loop_no (w : World) (yb xb : Nat) (cv nv tv ov kv : Value) (p : Nat) (nm : List UInt8) (px : Nat) (n : Int) (id last site : Nat) (hne : xb ≠ yb)
    (hy : w.heap[yb]? = some (.cells (tyCells cv nv tv ov 0 p) 57 (0, 0)))
    (hx : w.heap[xb]? = some (.cells (exCells Kw.loop.bytes px nm n kv id last site) 53 (0, 0)))
    (b c : Ty) (hb : b.txt.length ≤ 100000) (hc : c.txt.length ≤ 100000) (heq : ¬ b.bare = c.bare) :
    Calls Tryd.prog 64 #[ptr yb, ptr xb, .agg #[.string (bs Ty.n.txt), .string (bs b.txt), .string (bs c.txt)]] w fun v w' => v = .returned (.string (bs [110])) ∧ w.grownBy w' (some yb) ∧ w'.heap[yb]? = some (.cells (tyCells cv nv tv ov 5 px) 57 (0, 0)) := by
  have x0 : w.cell? ⟨xb, 0, none⟩ = some (.string (bs Kw.loop.bytes)) := by rw [blk_cell hx]; rfl
  have hxb := blk_lt hx
  have hyb := blk_lt hy
  have HY : Hid _ := hy
  have HX : Hid _ := hx
  have q0 : ((bs Kw.loop.bytes).toList == [110, 101, 119]) = false := by rw [bs_beq0]; decide
  have q1 : ((bs Kw.loop.bytes).toList == [112, 97, 105, 114]) = false := by rw [bs_beq0]; decide
  have q2 : ((bs Kw.loop.bytes).toList == [102, 115, 116]) = false := by rw [bs_beq0]; decide
  have q3 : ((bs Kw.loop.bytes).toList == [115, 110, 100]) = false := by rw [bs_beq0]; decide
  have q4 : ((bs Kw.loop.bytes).toList == [105, 102]) = false := by rw [bs_beq0]; decide
  have q5 : ((bs Kw.loop.bytes).toList == [108, 111, 111, 112]) = true := by rw [bs_beq0]; decide
  have hh := fun w => halves_n w
  have hpb := fun w => plain_any b w hb
  have hpc := fun w => plain_any c w hc
  have k0 : ((bs Ty.n.txt).toList == [110]) = true := by rw [bs_beq0]; decide
  have ke : ((bs b.plain).toList == (bs c.plain).toList) = false := by
    rw [Lib.toList_data, Lib.toList_data, bs_toList, bs_toList, beq_eq_false_iff_ne]; exact fun h => heq ((plain_inj b c).1 h)
  have her := fun (o : Obj) (m : Nat) => err_any ((w.alloc o).drewN m) yb xb cv nv tv ov kv 0 p 5 _ nm px n id last site hne (blk_alloc o hy) (blk_alloc o hx)
  unfold ptr at her
  clear hy hx heq
  show Calls _ _ #[Value.pointer (some ⟨yb, 0, none⟩), Value.pointer (some ⟨xb, 0, none⟩), _] w _
  go_enter Tryd.func64, Tryd.ntmps64
  go_wp2_with (go_at_call 73; refine (hh _).mono ?_; rintro e w1 ⟨rfl, rfl⟩)
  go_quiet (first | (go_at_call_of 75 (Value.string (bs b.txt)); exact Calls.quiet_of (hpb _)) | (go_at_call_of 75 (Value.string (bs c.txt)); exact Calls.quiet_of (hpc _)))
  go_wp2_with (go_at_call 52; refine (her _ _).mono ?_; rintro e w2 ⟨rfl, hg1, hy1⟩)
  go_ret
  exact ⟨rfl, gr_trans (grew_of (below_box _ _ _) _) hg1, hy1⟩

set_option maxRecDepth 100000 in
set_option maxHeartbeats 1000000 in
theorem made_loop_p (w : World) (yb xb : Nat) (cv nv tv ov kv : Value) (p : Nat) (nm : List UInt8) (px : Nat) (n : Int) (id last site : Nat) (hne : xb ≠ yb)
    (hy : w.heap[yb]? = some (.cells (tyCells cv nv tv ov 0 p) 57 (0, 0)))
    (hx : w.heap[xb]? = some (.cells (exCells Kw.loop.bytes px nm n kv id last site) 53 (0, 0)))
    (r : Nat) (a a' : Ty) (hs : (Ty.p r a a').txt.length ≤ 100000) (b c : ByteArray) :
    Calls Tryd.prog 64 #[ptr yb, ptr xb, .agg #[.string (bs (Ty.p r a a').txt), .string b, .string c]] w fun v w' => v = .returned (.string (bs [110])) ∧ w.grownBy w' (some yb) ∧ w'.heap[yb]? = some (.cells (tyCells cv nv tv ov 5 px) 57 (0, 0)) := by
  have x0 : w.cell? ⟨xb, 0, none⟩ = some (.string (bs Kw.loop.bytes)) := by rw [blk_cell hx]; rfl
  have hxb := blk_lt hx
  have hyb := blk_lt hy
  have HY : Hid _ := hy
  have HX : Hid _ := hx
  have q0 : ((bs Kw.loop.bytes).toList == [110, 101, 119]) = false := by rw [bs_beq0]; decide
  have q1 : ((bs Kw.loop.bytes).toList == [112, 97, 105, 114]) = false := by rw [bs_beq0]; decide
  have q2 : ((bs Kw.loop.bytes).toList == [102, 115, 116]) = false := by rw [bs_beq0]; decide
  have q3 : ((bs Kw.loop.bytes).toList == [115, 110, 100]) = false := by rw [bs_beq0]; decide
  have q4 : ((bs Kw.loop.bytes).toList == [105, 102]) = false := by rw [bs_beq0]; decide
  have q5 : ((bs Kw.loop.bytes).toList == [108, 111, 111, 112]) = true := by rw [bs_beq0]; decide
  have hh := fun w => halves_p r a a' w hs
  have k0 : ((bs (Ty.p r a a').txt).toList == [110]) = false := by rw [bs_beq0]; simp [Ty.txt]
  have her := fun (o : Obj) (m : Nat) => err_any ((w.alloc o).drewN m) yb xb cv nv tv ov kv 0 p 5 _ nm px n id last site hne (blk_alloc o hy) (blk_alloc o hx)
  unfold ptr at her
  clear hy hx
  show Calls _ _ #[Value.pointer (some ⟨yb, 0, none⟩), Value.pointer (some ⟨xb, 0, none⟩), _] w _
  go_enter Tryd.func64, Tryd.ntmps64
  go_wp2_with (go_at_call 73; refine (hh _).mono ?_; rintro e w1 ⟨rfl, n1, rfl⟩)
  go_quiet (fail)
  go_wp2_with (go_at_call 52; refine (her _ _).mono ?_; rintro e w2 ⟨rfl, hg1, hy1⟩)
  go_ret
  exact ⟨rfl, gr_trans (grew_of (below_box _ _ _) _) hg1, hy1⟩

end Go.Proofs.YtfnplohaokeljaaDoor
