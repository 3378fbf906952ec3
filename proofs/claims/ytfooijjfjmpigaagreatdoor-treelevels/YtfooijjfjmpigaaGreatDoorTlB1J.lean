import Derived.Test.YtfooijjfjmpigaaGreatDoorTlAJ
/- Stage 12, TreeLevels: each pair of operators is read, part 1. -/
namespace Go.Proofs.YtfooijjfjmpigaaGreatDoor.W.Tr
set_option linter.unusedVariables false
set_option maxRecDepth 1000000 in
theorem lv_1_0 : lvAll 1 [97, 110, 100] = true := by kernel_rfl
set_option maxRecDepth 1000000 in
theorem lv_2_3 : lvAll 2 [60, 61] = true := by kernel_rfl
set_option maxRecDepth 1000000 in
theorem lv_4_0 : lvAll 4 [94] = true := by kernel_rfl
set_option maxRecDepth 1000000 in
theorem lv_7_0 : lvAll 7 [43] = true := by kernel_rfl
set_option maxRecDepth 1000000 in
theorem lv_8_2 : lvAll 8 [47, 47] = true := by kernel_rfl
end Go.Proofs.YtfooijjfjmpigaaGreatDoor.W.Tr
