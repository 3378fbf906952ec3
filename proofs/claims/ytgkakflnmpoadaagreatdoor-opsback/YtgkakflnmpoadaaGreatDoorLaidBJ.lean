import Derived.Test.YtgkakflnmpoadaaGreatDoorLaid10J
import Derived.Test.YtgkakflnmpoadaaGreatDoorBase13
/- What the listed variables hold, out of the statement's own condition: the library's tables. -/
namespace Go.Proofs.YtgkakflnmpoadaaGreatDoor.W.Nu.Q
open Go.ChangeShapes Go.WideShapes Go.ChangeAt Go.RowKit
theorem g64 : Tryz.prog.globalNamed "math/bits.deBruijn64tab" = some 3 := by kernel_rfl
theorem t64 : (Tryz.prog.globals[3]?).map (·.type) = some 289 := by kernel_rfl
theorem t10 : (Tryz.prog.globals[2]?).map (·.type) = some 278 := by kernel_rfl
theorem u64t : ∃ e, Tryz.prog.underlying 289 = some (.array 64 e) ∧ Tryz.prog.underlying e = some (.int .u8) ∧ Tryz.prog.cellsOf e = 1 ∧ Tryz.prog.cellsOf 289 = 64 := ⟨5, by kernel_rfl, by kernel_rfl, by kernel_rfl, by kernel_rfl⟩
theorem u10t : ∃ e, Tryz.prog.underlying 278 = some (.array 20 e) ∧ Tryz.prog.underlying e = some (.int .u64) ∧ Tryz.prog.cellsOf e = 1 ∧ Tryz.prog.cellsOf 278 = 20 := ⟨22, by kernel_rfl, by kernel_rfl, by kernel_rfl, by kernel_rfl⟩
theorem tab64 {H : Type} : (Rows.laid_math_bits_deBruijn64tab : DataW H) = Lib.tabData .u8 (Lib.deBruijn64tab.map fun n : Nat => (n : Int)) := rfl
theorem tab10 {H : Type} : (Rows.laid_internal_strconv_uint64pow10 : DataW H) = Lib.tabData .u64 Lib.pow10Tab := rfl
theorem of_laid {W : World} (h : laidMetH Tryz.prog Go.Proofs.YtgkakflnmpoadaaGreatDoor.W.laid4 W) : Tabs W := by
  rw [MakeChecks.laidMetH_plain _ _ _ (by kernel_rfl)] at h
  obtain ⟨ps, ⟨g0, t0, cs0, f0, p0, q0, hg0, ht0, hv0, hd0, ⟨g1, t1, cs1, f1, p1, q1, hg1, ht1, hv1, hd1, ⟨g2, t2, cs2, f2, p2, q2, hg2, ht2, hv2, hd2, _, _⟩, _⟩, _⟩, _, _⟩ := h
  obtain rfl := Option.some.inj (g64.symm.trans hg1)
  obtain rfl := Option.some.inj (pow10_g.symm.trans hg2)
  obtain rfl := Option.some.inj (t64.symm.trans ht1)
  obtain rfl := Option.some.inj (t10.symm.trans ht2)
  obtain ⟨e1, a1, a2, a3, a4⟩ := u64t
  obtain ⟨e2, b1, b2, b3, b4⟩ := u10t
  rw [tab64] at hd1
  rw [tab10] at hd2
  have k1 := Lib.cells_of_tab a1 a2 a3 a4 hd1
  have k2 := Lib.cells_of_tab b1 b2 b3 b4 hd2
  refine ⟨?_, fun j hj => ?_⟩
  · show W.var? Tryz.prog "internal/strconv.uint64pow10" = _
    rw [hv2, ← k2]
  · have := World.var?_cell hg1 hv1 j
    rw [this]
    have e : cs1[j]? = cs1.toList[j]? := by simp
    rw [e, k1, List.getElem?_map, List.getElem?_map, List.getElem?_eq_getElem hj]
    simp [List.getD_eq_getElem?_getD, List.getElem?_eq_getElem hj]
end Go.Proofs.YtgkakflnmpoadaaGreatDoor.W.Nu.Q
