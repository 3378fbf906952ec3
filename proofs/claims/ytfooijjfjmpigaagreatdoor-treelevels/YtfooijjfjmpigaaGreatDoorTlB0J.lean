import Derived.Test.YtfooijjfjmpigaaGreatDoorTlAJ
/- Stage 12, TreeLevels: each pair of operators is read, part 0. -/
namespace Go.Proofs.YtfooijjfjmpigaaGreatDoor.W.Tr
set_option linter.unusedVariables false
set_option maxRecDepth 1000000 in
theorem lv_0_0 : lvAll 0 [111, 114] = true := by kernel_rfl
set_option maxRecDepth 1000000 in
theorem lv_2_2 : lvAll 2 [60] = true := by kernel_rfl
set_option maxRecDepth 1000000 in
theorem lv_3_0 : lvAll 3 [124] = true := by kernel_rfl
set_option maxRecDepth 1000000 in
theorem lv_6_1 : lvAll 6 [62, 62] = true := by kernel_rfl
set_option maxRecDepth 1000000 in
theorem lv_8_1 : lvAll 8 [47] = true := by kernel_rfl
end Go.Proofs.YtfooijjfjmpigaaGreatDoor.W.Tr
