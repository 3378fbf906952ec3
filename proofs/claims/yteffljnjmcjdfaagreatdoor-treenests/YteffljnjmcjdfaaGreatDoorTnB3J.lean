import Derived.Test.YteffljnjmcjdfaaGreatDoorTnAJ
set_option maxRecDepth 1000000
set_option maxHeartbeats 8000000
namespace Go.Proofs.YteffljnjmcjdfaaGreatDoor.W.Tr
set_option linter.unusedVariables false
theorem nest3_0:nestR [45,40] [41] 20 0=true:=by kernel_rfl
theorem nest3_20:nestR [45,40] [41] 15 20=true:=by kernel_rfl
theorem nest3_35:nestR [45,40] [41] 10 35=true:=by kernel_rfl
theorem nest3_45:nestR [45,40] [41] 10 45=true:=by kernel_rfl
theorem nest3_55:nestR [45,40] [41] 8 55=true:=by kernel_rfl
theorem nest3_63:nestR [45,40] [41] 7 63=true:=by kernel_rfl
theorem nest3_70:nestR [45,40] [41] 8 70=true:=by kernel_rfl
theorem nest3_78:nestR [45,40] [41] 8 78=true:=by kernel_rfl
theorem nest3_86:nestR [45,40] [41] 8 86=true:=by kernel_rfl
theorem nest3_94:nestR [45,40] [41] 7 94=true:=by kernel_rfl
theorem nest3(n:Nat)(hn:n<=100):nestB [45,40] [41] n=true:=by
 by_cases h0:n<20
 ·exact nestR_at 20 0 nest3_0 n (by omega) (by omega)
 by_cases h20:n<35
 ·exact nestR_at 15 20 nest3_20 n (by omega) (by omega)
 by_cases h35:n<45
 ·exact nestR_at 10 35 nest3_35 n (by omega) (by omega)
 by_cases h45:n<55
 ·exact nestR_at 10 45 nest3_45 n (by omega) (by omega)
 by_cases h55:n<63
 ·exact nestR_at 8 55 nest3_55 n (by omega) (by omega)
 by_cases h63:n<70
 ·exact nestR_at 7 63 nest3_63 n (by omega) (by omega)
 by_cases h70:n<78
 ·exact nestR_at 8 70 nest3_70 n (by omega) (by omega)
 by_cases h78:n<86
 ·exact nestR_at 8 78 nest3_78 n (by omega) (by omega)
 by_cases h86:n<94
 ·exact nestR_at 8 86 nest3_86 n (by omega) (by omega)
 by_cases h94:n<101
 ·exact nestR_at 7 94 nest3_94 n (by omega) (by omega)
 omega
end Go.Proofs.YteffljnjmcjdfaaGreatDoor.W.Tr
