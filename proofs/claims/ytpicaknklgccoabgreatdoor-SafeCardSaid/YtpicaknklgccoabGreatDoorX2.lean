import Derived.Test.YtpicaknklgccoabGreatDoorX1
namespace Go.Proofs.YtpicaknklgccoabGreatDoor
open Go.RowKit
open Go.Lib (decDigits)
theorem tameL_mem : ∀ {ts : List PT}, tameL ts → ∀ t ∈ ts, t.tame
 | [], _, t, h => by simp at h
 | a :: r, hw, t, h => by
  simp only [tameL] at hw
  rcases List.mem_cons.1 h with h | h
  ·rw [h]; exact hw.1
  ·exact tameL_mem hw.2 t h
theorem tameL_take : ∀ (ts : List PT) (i : Nat), tameL ts → tameL (ts.take i)
 | [], i, _ => by simp [tameL]
 | a :: r, 0, _ => by simp [tameL]
 | a :: r, i + 1, h => by simp only [tameL] at h; simp only [List.take_succ_cons, tameL]; exact ⟨h.1, tameL_take r i h.2⟩
theorem ptxL_snoc : ∀ (ts : List PT) (t : PT), ptxL (ts ++ [t]) = ptxL ts ++ [t.ptx]
 | [], t => by simp [ptxL]
 | a :: r, t => by simp [ptxL, ptxL_snoc r t]
def accT (k : Kw) (nm : List UInt8) (kids : List PT) (j : Nat) : List UInt8 := 40 :: (k.bytes ++ joinT k nm 0 (ptxL (kids.take j)))
theorem accT_succ (k : Kw) (nm : List UInt8) (kids : List PT) (j : Nat) (x : PT) (hx : kids[j]? = some x) : accT k nm kids (j + 1) = accT k nm kids j ++ pieceT k nm j x.ptx := by
 have hlt : j < kids.length := (List.getElem?_eq_some_iff.1 hx).1
 unfold accT
 rw [List.take_add_one, hx]
 simp only [Option.toList_some]
 rw [ptxL_snoc, joinT_snoc, ptxL_len, List.length_take, Nat.min_eq_left (by omega), Nat.zero_add]
 simp [List.append_assoc]
theorem accT_len (k : Kw) (nm : List UInt8) (kids : List PT) (j : Nat) (hn : nm.length ≤ 9000) (ht : tameL kids) (hc : cntL kids ≤ 9000) : (accT k nm kids j).length ≤ 180000005 := by
 have h1 := joinT_len k nm (kids.take j) 0 hn (tameL_take kids j ht)
 have h2 := cntL_take kids j
 have h3 : k.bytes.length ≤ 4 := by cases k <;> decide
 unfold accT
 simp only [List.length_cons, List.length_append]
 omega
theorem accT_end (p : Nat) (k : Kw) (nm rg : List UInt8) (kids : List PT) (hk : k ≠ .new) : accT k nm kids kids.length ++ [41] = (PT.node p k nm rg kids).ptx := by
 unfold accT
 simp [PT.ptx, hk]
end Go.Proofs.YtpicaknklgccoabGreatDoor
