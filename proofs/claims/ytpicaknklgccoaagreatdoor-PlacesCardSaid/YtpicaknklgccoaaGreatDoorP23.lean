import Derived.Test.YtpicaknklgccoaaGreatDoorP22
namespace Go.Proofs.YtpicaknklgccoaaGreatDoor
open Go.RowKit
open Go.Lib (decDigits)
theorem tameL_mem : ∀ {ts : List PT}, tameL ts → ∀ t ∈ ts, t.tame
 | [], _, t, h => by simp at h
 | a :: r, hw, t, h => by
  simp only [tameL] at hw
  rcases List.mem_cons.1 h with h | h
  ·rw [h]; exact hw.1
  ·exact tameL_mem hw.2 t h
theorem tameL_take : ∀ (ts : List PT) (i : Nat), tameL ts → tameL (ts.take i)
 | [], i, _ => by simp [tameL]
 | a :: r, 0, _ => by simp [tameL]
 | a :: r, i + 1, h => by simp only [tameL] at h; simp only [List.take_succ_cons, tameL]; exact ⟨h.1, tameL_take r i h.2⟩
end Go.Proofs.YtpicaknklgccoaaGreatDoor
