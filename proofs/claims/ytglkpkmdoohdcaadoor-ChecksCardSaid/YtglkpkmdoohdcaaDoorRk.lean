import Derived.Test.YtglkpkmdoohdcaaDoorRi
namespace Go.Proofs.YtglkpkmdoohdcaaDoor
open Go.RowKit
open Go.Lib (decDigits)

theorem bs_app (l m : List UInt8) : bs l ++ bs m = bs (l ++ m) := by
  apply bs_eq; simp [bs]
theorem plain_len (t : Ty) : t.plain.length ≤ t.txt.length := by
  induction t with
  | n => simp [Ty.plain, Ty.txt]
  | p r a b iha ihb => simp [Ty.plain, Ty.txt]; omega

set_option maxHeartbeats 800000 in
theorem plain_any (t : Ty) : ∀ (w : World), t.txt.length ≤ 100000 → Calls Tryd.prog 113 #[.string (bs t.txt)] w fun e w' => e = .returned (.string (bs t.plain)) ∧ ∃ n, w' = w.drewN n := by
  induction t with
  | n =>
    intro w hl
    have hse : ((bs Ty.n.txt).toList == [110]) = true := by rw [bs_beq0]; decide
    go_enter Tryd.func113, Tryd.ntmps113
    go_wp2_with fail
    go_ret
    exact ⟨rfl, 0, rfl⟩
  | p r a b iha ihb =>
    intro w hl
    have hlen := txt_len r a b
    have hse : ((bs (Ty.p r a b).txt).toList == [110]) = false := by rw [bs_beq0]; simp [Ty.txt]
    have hh := fun w => halves_p r a b w hl
    have la := plain_len a
    have lb := plain_len b
    have z1 : (ByteArray.mk #[60]).size = 1 := rfl
    have z2 : (bs a.plain).size ≤ 100000 := by rw [bs_size]; omega
    have z3 : (ByteArray.mk #[60] ++ bs a.plain).size ≤ 100001 := by rw [ByteArray.size_append, z1]; omega
    have z4 : (bs b.plain).size ≤ 100000 := by rw [bs_size]; omega
    have z5 : (ByteArray.mk #[60] ++ bs a.plain ++ bs b.plain).size ≤ 200001 := by rw [ByteArray.size_append]; omega
    have z6 : (ByteArray.mk #[62]).size = 1 := rfl
    go_enter Tryd.func113, Tryd.ntmps113
    go_wp2_with (first
      | (go_at_call 111; refine (hh _).mono ?_; rintro e w1 ⟨rfl, n1, rfl⟩)
      | (go_at_call_of 113 (Value.string (bs a.txt)); refine (iha _ (by omega)).mono ?_; rintro e w2 ⟨rfl, n2, rfl⟩)
      | (go_at_call_of 113 (Value.string (bs b.txt)); refine (ihb _ (by omega)).mono ?_; rintro e w3 ⟨rfl, n3, rfl⟩))
    go_ret
    refine ⟨?_, _, rfl⟩
    have e : (ByteArray.mk #[60] ++ bs a.plain ++ bs b.plain ++ ByteArray.mk #[62]) = bs (Ty.p r a b).plain := by
      rw [show ByteArray.mk #[60] = bs [60] from rfl, show ByteArray.mk #[62] = bs [62] from rfl, bs_app, bs_app, bs_app]
      simp [Ty.plain]
    rw [← e]; rfl

def dtab : ByteArray := ⟨#[48, 49, 50, 51, 52, 53, 54, 55, 56, 57, 97, 98, 99, 100, 101, 102, 103, 104, 105, 106, 107, 108, 109, 110, 111, 112, 113, 114, 115, 116, 117, 118, 119, 120, 121, 122]⟩
def stab : ByteArray := ⟨((List.range 100).flatMap fun i => [UInt8.ofNat (48 + i / 10), UInt8.ofNat (48 + i % 10)]).toArray⟩
theorem tab1 (i : Nat) (h : i < 10) : dtab.extract i (i + 1) = bs [UInt8.ofNat (48 + i)] := by
  have : ∀ i : Fin 10, dtab.extract i.val (i.val + 1) = bs [UInt8.ofNat (48 + i.val)] := by decide +kernel
  exact this ⟨i, h⟩
theorem tab2 (i : Nat) (h : i < 100) : stab.extract (i * 2) (i * 2 + 2) = bs [UInt8.ofNat (48 + i / 10), UInt8.ofNat (48 + i % 10)] := by
  have : ∀ i : Fin 100, stab.extract (i.val * 2) (i.val * 2 + 2) = bs [UInt8.ofNat (48 + i.val / 10), UInt8.ofNat (48 + i.val % 10)] := by decide +kernel
  exact this ⟨i, h⟩

set_option maxRecDepth 100000 in
set_option maxHeartbeats 800000 in
theorem itoa_small (i : Nat) (w : World) (hi : i < 100) : Calls Tryd.prog 26 #[.int .i64 i] w fun e w' => e = .returned (.string (bs (decDigits i))) ∧ w' = w := by
  go_enter Tryd.func26, Tryd.ntmps26
  go_wp2
  all_goals go_ret
  · refine ⟨?_, rfl⟩
    rw [Lib.decDigits_one (by omega), ← tab1 i (by omega)]
    rfl
  · refine ⟨?_, rfl⟩
    rw [Lib.decDigits_two (by omega) hi, ← tab2 i hi]
    rfl
end Go.Proofs.YtglkpkmdoohdcaaDoor
