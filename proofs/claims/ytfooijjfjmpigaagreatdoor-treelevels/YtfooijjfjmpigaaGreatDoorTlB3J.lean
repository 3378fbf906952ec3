import Derived.Test.YtfooijjfjmpigaaGreatDoorTlAJ
/- Stage 12, TreeLevels: each pair of operators is read, part 3. -/
namespace Go.Proofs.YtfooijjfjmpigaaGreatDoor.W.Tr
set_option linter.unusedVariables false
set_option maxRecDepth 1000000 in
theorem lv_2_1 : lvAll 2 [33, 61] = true := by kernel_rfl
set_option maxRecDepth 1000000 in
theorem lv_2_5 : lvAll 2 [62, 61] = true := by kernel_rfl
set_option maxRecDepth 1000000 in
theorem lv_6_0 : lvAll 6 [60, 60] = true := by kernel_rfl
set_option maxRecDepth 1000000 in
theorem lv_8_0 : lvAll 8 [42] = true := by kernel_rfl
end Go.Proofs.YtfooijjfjmpigaaGreatDoor.W.Tr
