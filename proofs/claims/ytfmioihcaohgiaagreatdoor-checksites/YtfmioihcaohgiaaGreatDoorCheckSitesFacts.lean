/- The closed facts of the program that the law's row tells, each by itself. -/
import Derived.Test.YtfmioihcaohgiaaGreatDoorRows
import Derived.Test.YtfmioihcaohgiaaGreatDoorCards
import Derived.KernelRfl
import Derived.SevenTiedAt
import Derived.ProofKit
import Derived.ChangeOld
import Derived.LaidMore
import Derived.Stop.Joined
namespace Go.Proofs.YtfmioihcaohgiaaGreatDoor.checkSites
open Go.ChangeShapes Go.WideShapes Go.ChangeAt Go.RowKit
set_option maxRecDepth 100000
theorem l_ip : Tryz.checked.prog.inPlace 6 = Rows.checkSitesRow.inPlace := by kernel_rfl
theorem l_un : Tryz.checked.prog.unfollowed 6 = Rows.checkSitesRow.unfollowed := by kernel_rfl
theorem l_re : Tryz.checked.prog.recurses 6 = Rows.checkSitesRow.recurses := by kernel_rfl
theorem l_na : Tryz.checked.prog.varsNamed 6 = Rows.checkSitesRow.named := by kernel_rfl
theorem l_lf : Tryz.checked.prog.liftsFinal = Rows.checkSitesRow.lifted := by kernel_rfl
theorem l_sh : Tryz.checked.prog.stopsHeard = true := by kernel_rfl
theorem l_me : Tryz.checked.prog.mayEnter = true := by kernel_rfl
theorem l_lo : laidOutB Tryz.checked.prog = true := by kernel_rfl
theorem l_mr : mapsRowed Tryz.checked.prog = true := by kernel_rfl
theorem l_wf : Rows.checkSitesRow.wf (OpenSpec.ofChange Rows.checkSitesSpec) = true := by kernel_rfl
theorem l_wt : Rows.checkSitesRow.wfByText (OpenSpec.ofChange Rows.checkSitesSpec) = true := by kernel_rfl
theorem l_lk : true = Tryz.checked.prog.looks [] := by kernel_rfl
theorem l_gb : false = Rows.checkSitesRow.goesBy Tryz.checked.prog := by kernel_rfl
theorem l_mi : Tryz.checked.prog.mainIs = some (true, ("7b0924c084a159e37fd02a7a540e4a42b1203077622dd76143aefedc06fd7838" : String).toList) := by kernel_rfl
theorem l_ws : ([9].all fun u => !Tryz.prog.wantsStandIn u) = true := by kernel_rfl
theorem facts : joinedFacts Tryz.checked.prog 6 Tryz.f6 Rows.checkSitesSpec Rows.checkSitesRow = true := by
  unfold joinedFacts
  rw [l_ip, l_un, l_re, l_na, l_lf, l_sh, l_me, l_lo, l_mr, l_wf]
  kernel_rfl
end Go.Proofs.YtfmioihcaohgiaaGreatDoor.checkSites
