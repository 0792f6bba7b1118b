import Derived.Test.YtpicaknklgccoaaGreatDoorS15
namespace Go.Proofs.YtpicaknklgccoaaGreatDoor
open Go.RowKit
open Go.Lib (decDigits)
theorem yG : ∀ {ts : List PT}, bG ts -> ∀ t ∈ ts, t.bN
 | [], _, t, h => by simp at h
 | a :: r, hw, t, h => by
  simp only [bG] at hw
  rcases List.mem_cons.1 h with h | h
  ·rw [h]; exact hw.1
  ·exact yG hw.2 t h
theorem vK : ∀ (ts : List PT) (i : Nat), bG ts -> bG (ts.take i)
 | [], i, _ => by simp [bG]
 | a :: r, 0, _ => by simp [bG]
 | a :: r, i + 1, h => by simp only [bG] at h; simp only [List.take_succ_cons, bG]; exact ⟨h.1, vK r i h.2⟩
end Go.Proofs.YtpicaknklgccoaaGreatDoor
