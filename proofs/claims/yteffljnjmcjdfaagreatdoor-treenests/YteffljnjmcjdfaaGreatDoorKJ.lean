import Derived.Test.YteffljnjmcjdfaaGreatDoorJJ
set_option maxRecDepth 1000000
set_option maxHeartbeats 8000000
namespace Go.Proofs.YteffljnjmcjdfaaGreatDoor.W.Tr
set_option linter.unusedVariables false
def rowF:Fo->List (Nd × Nat)
 | .nil=>[]
 | .cons n ks r=>(n,ks.len)::(rowF ks++rowF r)
theorem rowF_app:∀f g:Fo,rowF (f.app g)=rowF f++rowF g
 | .nil,g=>rfl
 | .cons n ks r,g=>by
  show (n,ks.len)::(rowF ks++rowF (r.app g))=_
  rw[rowF_app r g]
  simp[rowF]
theorem len_rowF:∀f:Fo,f.len<=(rowF f).length
 | .nil=>Nat.le_refl _
 | .cons n ks r=>by
  have:=len_rowF r
  simp only[Fo.len,rowF,List.length_cons,List.length_append]
  omega
end Go.Proofs.YteffljnjmcjdfaaGreatDoor.W.Tr
