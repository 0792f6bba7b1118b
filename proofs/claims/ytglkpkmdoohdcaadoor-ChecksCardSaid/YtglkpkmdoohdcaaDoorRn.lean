import Derived.Test.YtglkpkmdoohdcaaDoorRg
import Derived.Test.YtglkpkmdoohdcaaDoorRk
import Derived.Test.YtglkpkmdoohdcaaDoorMg
import Derived.BigRegion
import Derived.BigQuiet
import Derived.Deep.QuietTactic
namespace Go.Proofs.YtglkpkmdoohdcaaDoor
open Go.RowKit
open Go.Lib (decDigits)

def tyCells (cv nv tv ov : Value) (e p : Nat) : Array Value := #[cv, nv, tv, ov, .int .i64 e, .int .i64 p]

set_option maxHeartbeats 1000000 in
theorem err_any (w : World) (yb xb : Nat) (cv nv tv ov kv : Value) (e p c : Nat) (op nm : List UInt8) (px : Nat) (n : Int) (id last site : Nat) (hne : xb ≠ yb)
    (hy : w.heap[yb]? = some (.cells (tyCells cv nv tv ov e p) 86 (0, 0)))
    (hx : w.heap[xb]? = some (.cells (exCells op px nm n kv id last site) 82 (0, 0))) :
    Calls Tryd.prog 85 #[ptr yb, .int .i64 c, ptr xb] w fun v w' => v = .returned (.string (bs [110])) ∧ w.grownBy w' (some yb) ∧
      w'.heap[yb]? = some (.cells (tyCells cv nv tv ov (if e = 0 then c else e) (if e = 0 then px else p)) 86 (0, 0)) := by
  have y4 : w.cell? ⟨yb, 4, none⟩ = some (.int .i64 e) := by rw [blk_cell hy]; rfl
  have y5 : w.cell? ⟨yb, 5, none⟩ = some (.int .i64 p) := by rw [blk_cell hy]; rfl
  have f4 : w.frozen? ⟨yb, 4, none⟩ = false := blk_free hy 4
  have f5 : w.frozen? ⟨yb, 5, none⟩ = false := blk_free hy 5
  have x1 : w.cell? ⟨xb, 1, none⟩ = some (.int .i64 px) := by rw [blk_cell hx]; rfl
  have hne' : yb ≠ xb := fun h => hne h.symm
  have HY : Hid _ := hy
  clear hy hx
  show Calls _ _ #[Value.pointer (some ⟨yb, 0, none⟩), _, Value.pointer (some ⟨xb, 0, none⟩)] w _
  by_cases he : e = 0
  · subst he
    go_enter Tryd.func85, Tryd.ntmps85
    go_wp2
    go_ret
    refine ⟨rfl, gr_trans (gr_set w ⟨yb, 4, none⟩ _) (gr_set _ ⟨yb, 5, none⟩ _), ?_⟩
    exact blk_set (blk_set HY.out 4 _) 5 _
  · have he' : ((e : Int) == 0) = false := by rw [beq_eq_false_iff_ne]; omega
    have HE : Hid (¬ e = 0) := he
    clear he
    go_enter Tryd.func85, Tryd.ntmps85
    go_wp2
    go_ret
    refine ⟨rfl, World.grownBy.refl _ _, ?_⟩
    first | exact HY.out | (rw [if_neg HE.out, if_neg HE.out]; exact HY.out)

set_option maxHeartbeats 1000000 in
theorem pairOf_any (r : Nat) (a b : Ty) (w : World) (hr : r < 100) (hs : a.txt.length + b.txt.length ≤ 90000) : Calls Tryd.prog 112 #[.int .i64 r, .string (bs a.txt), .string (bs b.txt)] w fun e w' => e = .returned (.string (bs (Ty.p r a b).txt)) ∧ w' = w := by
  have hdl := dec_len r (by omega)
  have hit := fun w => itoa_small r w hr
  have z1 : (ByteArray.mk #[60]).size = 1 := rfl
  have z0 : (bs (decDigits r)).size ≤ 3 := by rw [bs_size]; exact hdl
  have z2 : (ByteArray.mk #[60] ++ bs (decDigits r)).size ≤ 4 := by rw [ByteArray.size_append, z1]; omega
  have z3 : (ByteArray.mk #[58]).size = 1 := rfl
  have z4 : (ByteArray.mk #[60] ++ bs (decDigits r) ++ ByteArray.mk #[58]).size ≤ 5 := by rw [ByteArray.size_append, z3]; omega
  have z5 : (bs a.txt).size ≤ 90000 := by rw [bs_size]; omega
  have z6 : (ByteArray.mk #[60] ++ bs (decDigits r) ++ ByteArray.mk #[58] ++ bs a.txt).size ≤ 90005 := by rw [ByteArray.size_append]; omega
  have z7 : (bs b.txt).size ≤ 90000 := by rw [bs_size]; omega
  have z8 : (ByteArray.mk #[60] ++ bs (decDigits r) ++ ByteArray.mk #[58] ++ bs a.txt ++ bs b.txt).size ≤ 180005 := by rw [ByteArray.size_append]; omega
  have z9 : (ByteArray.mk #[62]).size = 1 := rfl
  go_enter Tryd.func112, Tryd.ntmps112
  go_wp2_with (go_at_call 26; refine (hit _).mono ?_; rintro e w' ⟨rfl, rfl⟩)
  go_ret
  refine ⟨?_, rfl⟩
  have e : (ByteArray.mk #[60] ++ bs (decDigits r) ++ ByteArray.mk #[58] ++ bs a.txt ++ bs b.txt ++ ByteArray.mk #[62]) = bs (Ty.p r a b).txt := by
    rw [show ByteArray.mk #[60] = bs [60] from rfl, show ByteArray.mk #[58] = bs [58] from rfl, show ByteArray.mk #[62] = bs [62] from rfl, bs_app, bs_app, bs_app, bs_app, bs_app]
    simp [Ty.txt]
  rw [← e]; rfl
end Go.Proofs.YtglkpkmdoohdcaaDoor
