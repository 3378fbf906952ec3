import Derived.Test.YteffljnjmcjdfaaGreatDoorTnAJ
set_option maxRecDepth 1000000
set_option maxHeartbeats 8000000
namespace Go.Proofs.YteffljnjmcjdfaaGreatDoor.W.Tr
set_option linter.unusedVariables false
theorem nest2_0:nestR [102,40] [41] 20 0=true:=by kernel_rfl
theorem nest2_20:nestR [102,40] [41] 15 20=true:=by kernel_rfl
theorem nest2_35:nestR [102,40] [41] 10 35=true:=by kernel_rfl
theorem nest2_45:nestR [102,40] [41] 10 45=true:=by kernel_rfl
theorem nest2_55:nestR [102,40] [41] 8 55=true:=by kernel_rfl
theorem nest2_63:nestR [102,40] [41] 7 63=true:=by kernel_rfl
theorem nest2_70:nestR [102,40] [41] 8 70=true:=by kernel_rfl
theorem nest2_78:nestR [102,40] [41] 8 78=true:=by kernel_rfl
theorem nest2_86:nestR [102,40] [41] 8 86=true:=by kernel_rfl
theorem nest2_94:nestR [102,40] [41] 7 94=true:=by kernel_rfl
theorem nest2(n:Nat)(hn:n<=100):nestB [102,40] [41] n=true:=by
 by_cases h0:n<20
 ·exact nestR_at 20 0 nest2_0 n (by omega) (by omega)
 by_cases h20:n<35
 ·exact nestR_at 15 20 nest2_20 n (by omega) (by omega)
 by_cases h35:n<45
 ·exact nestR_at 10 35 nest2_35 n (by omega) (by omega)
 by_cases h45:n<55
 ·exact nestR_at 10 45 nest2_45 n (by omega) (by omega)
 by_cases h55:n<63
 ·exact nestR_at 8 55 nest2_55 n (by omega) (by omega)
 by_cases h63:n<70
 ·exact nestR_at 7 63 nest2_63 n (by omega) (by omega)
 by_cases h70:n<78
 ·exact nestR_at 8 70 nest2_70 n (by omega) (by omega)
 by_cases h78:n<86
 ·exact nestR_at 8 78 nest2_78 n (by omega) (by omega)
 by_cases h86:n<94
 ·exact nestR_at 8 86 nest2_86 n (by omega) (by omega)
 by_cases h94:n<101
 ·exact nestR_at 7 94 nest2_94 n (by omega) (by omega)
 omega
end Go.Proofs.YteffljnjmcjdfaaGreatDoor.W.Tr
