import Derived.Test.YtpicaknklgccoabGreatDoorS15
namespace Go.Proofs.YtpicaknklgccoabGreatDoor
open Go.RowKit
open Go.Lib (decDigits)
theorem zX:∀ {ts:List PT},bI ts->∀ t∈ts,t.bL
 | [],_,t,h=>by simp at h
 | a::r,hw,t,h=>by
  simp only [bI] at hw
  rcases List.mem_cons.1 h with h | h
  ·rw [h];exact hw.1
  ·exact zX hw.2 t h
theorem wI:∀ (ts:List PT) (i:Nat),bI ts->bI (ts.take i)
 | [],i,_=>by simp [bI]
 | a::r,0,_=>by simp [bI]
 | a::r,i+1,h=>by simp only [bI] at h;simp only [List.take_succ_cons,bI];exact ⟨h.1,wI r i h.2⟩
end Go.Proofs.YtpicaknklgccoabGreatDoor
