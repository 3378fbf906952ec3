import Derived.Test.YteffljnjmcjdfaaGreatDoorTlAJ
set_option maxRecDepth 1000000
set_option maxHeartbeats 8000000
namespace Go.Proofs.YteffljnjmcjdfaaGreatDoor.W.Tr
set_option linter.unusedVariables false
theorem lv_2_0:lvAll 2 [61,61]=true:=by kernel_rfl
theorem lv_2_4:lvAll 2 [62]=true:=by kernel_rfl
theorem lv_5_0:lvAll 5 [38]=true:=by kernel_rfl
theorem lv_7_1:lvAll 7 [45]=true:=by kernel_rfl
theorem lv_8_3:lvAll 8 [37]=true:=by kernel_rfl
end Go.Proofs.YteffljnjmcjdfaaGreatDoor.W.Tr
