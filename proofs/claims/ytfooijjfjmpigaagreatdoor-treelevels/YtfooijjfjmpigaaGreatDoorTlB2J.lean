import Derived.Test.YtfooijjfjmpigaaGreatDoorTlAJ
/- Stage 12, TreeLevels: each pair of operators is read, part 2. -/
namespace Go.Proofs.YtfooijjfjmpigaaGreatDoor.W.Tr
set_option linter.unusedVariables false
set_option maxRecDepth 1000000 in
theorem lv_2_0 : lvAll 2 [61, 61] = true := by kernel_rfl
set_option maxRecDepth 1000000 in
theorem lv_2_4 : lvAll 2 [62] = true := by kernel_rfl
set_option maxRecDepth 1000000 in
theorem lv_5_0 : lvAll 5 [38] = true := by kernel_rfl
set_option maxRecDepth 1000000 in
theorem lv_7_1 : lvAll 7 [45] = true := by kernel_rfl
set_option maxRecDepth 1000000 in
theorem lv_8_3 : lvAll 8 [37] = true := by kernel_rfl
end Go.Proofs.YtfooijjfjmpigaaGreatDoor.W.Tr
