import Derived.Test.YteffljnjmcjdfaaGreatDoorTlAJ
set_option maxRecDepth 1000000
set_option maxHeartbeats 8000000
namespace Go.Proofs.YteffljnjmcjdfaaGreatDoor.W.Tr
set_option linter.unusedVariables false
theorem lv_2_1:lvAll 2 [33,61]=true:=by kernel_rfl
theorem lv_2_5:lvAll 2 [62,61]=true:=by kernel_rfl
theorem lv_6_0:lvAll 6 [60,60]=true:=by kernel_rfl
theorem lv_8_0:lvAll 8 [42]=true:=by kernel_rfl
end Go.Proofs.YteffljnjmcjdfaaGreatDoor.W.Tr
