import Derived.Test.YtpicaknklgccoabGreatDoorV15
namespace Go.Proofs.YtpicaknklgccoabGreatDoor
open Go.RowKit
open Go.Lib (decDigits)
theorem Ba:∀ {ts:List PT},bH ts->∀ t∈ts,t.bQ
 | [],_,t,h=>by simp at h
 | a::r,hw,t,h=>by
  simp only[bH] at hw
  rcases List.mem_cons.1 h with h | h
  ·rw[h];exact hw.1
  ·exact Ba hw.2 t h
theorem xR:∀ (ts:List PT) (i:Nat),bH ts->bH (ts.take i)
 | [],i,_=>by simp[bH]
 | a::r,0,_=>by simp[bH]
 | a::r,i+1,h=>by simp only[bH] at h;simp only[List.take_succ_cons,bH];exact⟨h.1,xR r i h.2⟩
end Go.Proofs.YtpicaknklgccoabGreatDoor
