/- The closed facts of the program that the law's row tells, each by itself. -/
import Derived.Test.YtjplieobnknnpaaGreatDoorRows
import Derived.Test.YtjplieobnknnpaaGreatDoorCards
import Derived.KernelRfl
import Derived.SevenTiedAt
import Derived.ProofKit
import Derived.ChangeOld
import Derived.LaidMore
import Derived.Stop.Joined
namespace Go.Proofs.YtjplieobnknnpaaGreatDoor.checkBounds
open Go.ChangeShapes Go.WideShapes Go.ChangeAt Go.RowKit
set_option maxRecDepth 100000
theorem l_ip : Tryz.checked.prog.inPlace 3 = Rows.checkBoundsRow.inPlace := by kernel_rfl
theorem l_un : Tryz.checked.prog.unfollowed 3 = Rows.checkBoundsRow.unfollowed := by kernel_rfl
theorem l_re : Tryz.checked.prog.recurses 3 = Rows.checkBoundsRow.recurses := by kernel_rfl
theorem l_na : Tryz.checked.prog.varsNamed 3 = Rows.checkBoundsRow.named := by kernel_rfl
theorem l_lf : Tryz.checked.prog.liftsFinal = Rows.checkBoundsRow.lifted := by kernel_rfl
theorem l_sh : Tryz.checked.prog.stopsHeard = true := by kernel_rfl
theorem l_me : Tryz.checked.prog.mayEnter = true := by kernel_rfl
theorem l_lo : laidOutB Tryz.checked.prog = true := by kernel_rfl
theorem l_mr : mapsRowed Tryz.checked.prog = true := by kernel_rfl
theorem l_wf : Rows.checkBoundsRow.wf (OpenSpec.ofChange Rows.checkBoundsSpec) = true := by kernel_rfl
theorem l_wt : Rows.checkBoundsRow.wfByText (OpenSpec.ofChange Rows.checkBoundsSpec) = true := by kernel_rfl
theorem l_lk : true = Tryz.checked.prog.looks [] := by kernel_rfl
theorem l_gb : false = Rows.checkBoundsRow.goesBy Tryz.checked.prog := by kernel_rfl
theorem l_mi : Tryz.checked.prog.mainIs = some (true, ("11b15640de767c3ad00a107ab38bf85d240752b1c9a64b26097ea7a71cc902f4" : String).toList) := by kernel_rfl
theorem l_ws : ([3].all fun u => !Tryz.prog.wantsStandIn u) = true := by kernel_rfl
theorem facts : joinedFacts Tryz.checked.prog 3 Tryz.f3 Rows.checkBoundsSpec Rows.checkBoundsRow = true := by
  unfold joinedFacts
  rw [l_ip, l_un, l_re, l_na, l_lf, l_sh, l_me, l_lo, l_mr, l_wf]
  kernel_rfl
end Go.Proofs.YtjplieobnknnpaaGreatDoor.checkBounds
