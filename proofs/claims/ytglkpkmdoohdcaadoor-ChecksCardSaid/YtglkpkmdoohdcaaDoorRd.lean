import Derived.Test.YtglkpkmdoohdcaaDoorRc
import Derived.Test.YtglkpkmdoohdcaaDoorMb
namespace Go.Proofs.YtglkpkmdoohdcaaDoor
open Go.RowKit

def wtVal (x : Wt) : Value := .string (bs x.bytes)
theorem Tryd.undStrs : Tryd.prog.underlying 84 = some (.slice 9) := by kernel_rfl
theorem Tryd.infoStr : (Tryd.prog.info? 9).map (fun i => (i.zero, i.size, i.bytes)) = some (some (.string ⟨#[]⟩), 1, 16) := by kernel_rfl

theorem bs_beq (l m : List UInt8) : ((bs l).toList == m) = (l == m) := by rw [Lib.toList_data]; rfl

set_option maxRecDepth 100000 in
set_option maxHeartbeats 4000000 in
theorem wants_any (c : Cl) (placed : Bool) (w : World) :
    Calls Tryd.prog 39 #[.string (bs c.bytes), .bool placed] w fun e w' =>
      (wantsC c placed = [] ∧ e = .returned (.slice none 0 0) ∧ w' = w) ∨
      (wantsC c placed ≠ [] ∧ e = .returned (.slice (some ⟨w.heap.size, 0, none⟩) (wantsC c placed).length (wantsC c placed).length) ∧ w' = w.alloc (.cells (((wantsC c placed).map wtVal).reverse).toArray 9)) := by
  have ham1 := among_any ⟨#[112, 97, 105, 114, 32, 97, 100, 100, 32, 115, 117, 98, 32, 108, 101, 115, 115]⟩ (bs c.bytes)
  have ham2 := among_any ⟨#[102, 115, 116, 32, 115, 110, 100]⟩ (bs c.bytes)
  have hse := bs_beq
  rcases c with _ | _ | _ | _ | _ | _ | k
  case kw =>
    cases k <;> cases placed
    all_goals
      simp only [Cl.bytes, Kw.bytes] at ham1 ham2 ⊢
      go_enter Tryd.func39, Tryd.ntmps39
      go_wp2_with (first
        | (go_at_call_of 62 (Value.string { data := #[112, 97, 105, 114, 32, 97, 100, 100, 32, 115, 117, 98, 32, 108, 101, 115, 115] }); refine (ham1 _ (by decide)).mono ?_; rintro e w' ⟨rfl, rfl⟩)
        | (go_at_call_of 62 (Value.string { data := #[102, 115, 116, 32, 115, 110, 100] }); refine (ham2 _ (by decide)).mono ?_; rintro e w' ⟨rfl, rfl⟩))
      go_ret
      first | exact Or.inr ⟨by decide, rfl, rfl⟩ | exact Or.inl ⟨rfl, rfl, rfl⟩
  all_goals
    cases placed
    all_goals
      simp only [Cl.bytes] at ham1 ham2 ⊢
      go_enter Tryd.func39, Tryd.ntmps39
      go_wp2_with (first
        | (go_at_call_of 62 (Value.string { data := #[112, 97, 105, 114, 32, 97, 100, 100, 32, 115, 117, 98, 32, 108, 101, 115, 115] }); refine (ham1 _ (by decide)).mono ?_; rintro e w' ⟨rfl, rfl⟩)
        | (go_at_call_of 62 (Value.string { data := #[102, 115, 116, 32, 115, 110, 100] }); refine (ham2 _ (by decide)).mono ?_; rintro e w' ⟨rfl, rfl⟩))
      go_ret
      exact Or.inl ⟨rfl, rfl, rfl⟩
end Go.Proofs.YtglkpkmdoohdcaaDoor
