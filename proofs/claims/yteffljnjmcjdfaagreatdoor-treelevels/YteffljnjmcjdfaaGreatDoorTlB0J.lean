import Derived.Test.YteffljnjmcjdfaaGreatDoorTlAJ
set_option maxRecDepth 1000000
set_option maxHeartbeats 8000000
namespace Go.Proofs.YteffljnjmcjdfaaGreatDoor.W.Tr
set_option linter.unusedVariables false
theorem lv_0_0:lvAll 0 [111,114]=true:=by kernel_rfl
theorem lv_2_2:lvAll 2 [60]=true:=by kernel_rfl
theorem lv_3_0:lvAll 3 [124]=true:=by kernel_rfl
theorem lv_6_1:lvAll 6 [62,62]=true:=by kernel_rfl
theorem lv_8_1:lvAll 8 [47]=true:=by kernel_rfl
end Go.Proofs.YteffljnjmcjdfaaGreatDoor.W.Tr
