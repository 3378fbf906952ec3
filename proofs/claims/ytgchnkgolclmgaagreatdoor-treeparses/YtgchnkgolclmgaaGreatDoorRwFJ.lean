import Derived.Test.YtgchnkgolclmgaaGreatDoorJJ
set_option maxRecDepth 1000000
set_option maxHeartbeats 8000000
namespace Go.Proofs.YtgchnkgolclmgaaGreatDoor.W.Tr
set_option linter.unusedVariables false
def dM:Fo->List (Nd × Nat)
 | .nil=>[]
 | .cons n ks r=>(n,ks.len)::(dM ks++dM r)
theorem oQ:∀f g:Fo,dM (f.app g)=dM f++dM g
 | .nil,g=>rfl
 | .cons n ks r,g=>by
  show (n,ks.len)::(dM ks++dM (r.app g))=_
  rw[oQ r g]
  simp[dM]
theorem wV:∀f:Fo,f.len<=(dM f).length
 | .nil=>Nat.le_refl _
 | .cons n ks r=>by
  have:=wV r
  simp only[Fo.len,dM,List.length_cons,List.length_append]
  omega
end Go.Proofs.YtgchnkgolclmgaaGreatDoor.W.Tr
