import Derived.Test.YteffljnjmcjdfaaGreatDoorTlAJ
set_option maxRecDepth 1000000
set_option maxHeartbeats 8000000
namespace Go.Proofs.YteffljnjmcjdfaaGreatDoor.W.Tr
set_option linter.unusedVariables false
theorem lv_1_0:lvAll 1 [97,110,100]=true:=by kernel_rfl
theorem lv_2_3:lvAll 2 [60,61]=true:=by kernel_rfl
theorem lv_4_0:lvAll 4 [94]=true:=by kernel_rfl
theorem lv_7_0:lvAll 7 [43]=true:=by kernel_rfl
theorem lv_8_2:lvAll 8 [47,47]=true:=by kernel_rfl
end Go.Proofs.YteffljnjmcjdfaaGreatDoor.W.Tr
