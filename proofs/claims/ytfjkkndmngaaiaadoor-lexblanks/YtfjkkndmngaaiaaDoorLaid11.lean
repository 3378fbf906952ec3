/- What the listed variables hold, out of the statements' own condition: the library's tables and the marks of package lex. -/
import Derived.Test.YtfjkkndmngaaiaaDoorRows
import Derived.Test.YtfjkkndmngaaiaaDoorX1j
import Derived.LaidMore
import Derived.Stop.Joined
import Derived.ProofKit
namespace Go.Proofs.YtfjkkndmngaaiaaDoor.W
open Go.ChangeShapes Go.WideShapes Go.ChangeAt Go.RowKit

/-- an array of strings that reads as these bytes holds them -/
theorem cells_of_strs {H : Type} {enc : TypeId × Value → H} {P : Program} {w : World} {base : Nat} {sp : Nat → Bool} {held : Bool} {fuel : Nat} {t e : TypeId} {n : Nat} {cs : List Value} {bs : List (List UInt8)} {p : List MemPlace}
    (ht : P.underlying t = some (.array n e)) (he : P.underlying e = some .string) (hce : P.cellsOf e = 1) (hct : P.cellsOf t = n)
    (h : DataW.trod enc P w base sp held fuel t cs = some (.agg (bs.map fun b => .lit (.string b)), p)) : cs = bs.map fun b => Value.string (bytesOf b) := by
  cases fuel with
  | zero => simp [DataW.trod] at h
  | succ fuel =>
    simp only [DataW.trod, ht, hce, hct, Nat.mul_one] at h
    split at h
    · rename_i hl
      obtain ⟨xs, hm, hx⟩ := Option.map_eq_some_iff.1 h
      have hxs : xs.map (·.1) = bs.map fun b => (DataW.lit (.string b) : DataW H) := by
        have := congrArg Prod.fst hx
        simpa using this
      have hxl : xs.length = n := by simpa using Lib.mapM_length hm
      have hzl : bs.length = n := by
        have := congrArg List.length hxs
        simp at this
        omega
      apply List.ext_getElem?
      intro i
      by_cases hi : i < n
      · obtain ⟨b, hb, hf⟩ := Lib.mapM_at hm i i (by simp [hi])
        obtain ⟨s, hc, rfl, _⟩ := DataW.trod_string he hf
        have h1 : cs[i]? = some (.string s) := by
          have := congrArg (·[0]?) hc
          simpa [List.getElem?_take, List.getElem?_drop] using this
        have h2 : (xs.map (·.1))[i]? = some (DataW.lit (.string s.data.toList) : DataW H) := by simp [hb]
        rw [hxs] at h2
        simp only [List.getElem?_map, Option.map_eq_some_iff, DataW.lit.injEq, Lit.string.injEq] at h2
        obtain ⟨z', hz', e⟩ := h2
        have e3 : bytesOf z' = s := by rw [e]; simp [bytesOf]
        simp [h1, hz', e3]
      · rw [List.getElem?_eq_none (by omega), List.getElem?_eq_none (by simp; omega)]
    · cases h
theorem marks_g : Tryd.prog.globalNamed "casket/lex.marks" = some 0 := by kernel_rfl
theorem marks_t : (Tryd.prog.globals[0]?).map (·.type) = some 65 := by kernel_rfl
theorem marks_u : ∃ e, Tryd.prog.underlying 65 = some (.array 29 e) ∧ Tryd.prog.underlying e = some .string ∧ Tryd.prog.cellsOf e = 1 ∧ Tryd.prog.cellsOf 65 = 29 := ⟨9, by kernel_rfl, by kernel_rfl, by kernel_rfl, by kernel_rfl⟩
theorem marks_d {H : Type} : (Rows.laid_casket_lex_marks : DataW H) = .agg (marks.map fun b => .lit (.string b)) := rfl
theorem marks_in {W : World} {cs : Array Value} (h : W.var? Tryd.prog "casket/lex.marks" = some cs) (hc : cs.toList = marks.map fun m => Value.string (bytesOf m)) : MarksIn W := by
  have e : cs = marksV := by
    apply Array.ext'
    rw [hc, marks_all]
  subst e
  unfold World.var? at h
  rw [marks_g] at h
  simp only [Option.bind_some] at h
  split at h
  · rename_i c ty fr hh
    injection h with h
    subst h
    exact ⟨ty, fr, hh⟩
  · cases h
theorem g64 : Tryd.prog.globalNamed "math/bits.deBruijn64tab" = some 1 := by kernel_rfl
theorem t64 : (Tryd.prog.globals[1]?).map (·.type) = some 87 := by kernel_rfl
theorem u64t : ∃ e, Tryd.prog.underlying 87 = some (.array 64 e) ∧ Tryd.prog.underlying e = some (.int .u8) ∧ Tryd.prog.cellsOf e = 1 ∧ Tryd.prog.cellsOf 87 = 64 := ⟨5, by kernel_rfl, by kernel_rfl, by kernel_rfl, by kernel_rfl⟩
theorem tab64 {H : Type} : (Rows.laid_math_bits_deBruijn64tab : DataW H) = Lib.tabData .u8 (Lib.deBruijn64tab.map fun n : Nat => (n : Int)) := rfl
theorem own : ownKnob Tryd.prog.godebug = none := by kernel_rfl
/-- two variables -/
def laidV : List (String × DataW Unit) := [("math/bits.deBruijn64tab", Rows.laid_math_bits_deBruijn64tab), ("casket/lex.marks", Rows.laid_casket_lex_marks)]
set_option maxRecDepth 100000 in
theorem door_met (os : Os) (args : Array Value) : laidMetH Tryd.prog laidV ((World.doorLaid Tryd.prog 400 os).forCall (fun _ _ => 0) ⟨#[], args, []⟩).memory :=
  laidMetH_of_parts3 (fuel := 8) (laidMet_of_run' 8 (by kernel_rfl) (by kernel_rfl)) (by kernel_rfl) (by kernel_rfl)
/-- two -/
theorem of_laid {W : World} (h : laidMetH Tryd.prog laidV W) : Tabs W ∧ MarksIn W := by
  rw [MakeChecks.laidMetH_plain _ _ _ (by kernel_rfl)] at h
  obtain ⟨ps, ⟨g1, t1, cs1, f1, p1, q1, hg1, ht1, hv1, hd1, ⟨g3, t3, cs3, f3, p3, q3, hg3, ht3, hv3, hd3, _, _⟩, _⟩, _, _⟩ := h
  obtain rfl := Option.some.inj (g64.symm.trans hg1)
  obtain rfl := Option.some.inj (marks_g.symm.trans hg3)
  obtain rfl := Option.some.inj (t64.symm.trans ht1)
  obtain rfl := Option.some.inj (marks_t.symm.trans ht3)
  obtain ⟨e1, a1, a2, a3, a4⟩ := u64t
  obtain ⟨e3, c1, c2, c3, c4⟩ := marks_u
  rw [tab64] at hd1
  rw [marks_d] at hd3
  have k1 := Lib.cells_of_tab a1 a2 a3 a4 hd1
  have k3 := cells_of_strs c1 c2 c3 c4 hd3
  refine ⟨fun j hj => ?_, marks_in hv3 k3⟩
  have := World.var?_cell hg1 hv1 j
  rw [this]
  have e : cs1[j]? = cs1.toList[j]? := by simp
  rw [e, k1, List.getElem?_map, List.getElem?_map, List.getElem?_eq_getElem hj]
  simp [List.getD_eq_getElem?_getD, List.getElem?_eq_getElem hj]
end Go.Proofs.YtfjkkndmngaaiaaDoor.W
