import Derived.Test.YtfooijjfjmpigaaGreatDoorTnAJ
import Derived.Test.YtfooijjfjmpigaaGreatDoorKF
import Derived.Test.YtfooijjfjmpigaaGreatDoorJE
/- Stage 12, TreeNests: one string so many times. -/
namespace Go.Proofs.YtfooijjfjmpigaaGreatDoor.W.Tr
open Go.ChangeShapes Go.WideShapes Go.RowKit Go.Shelf
set_option linter.unusedVariables false
set_option linter.unusedSimpArgs false
theorem repB_succ (k : Nat) (l : List UInt8) : repB (k + 1) l = repB k l ++ l := by
  unfold repB
  rw [List.replicate_succ', List.flatten_append]
  simp
theorem repB_len (k : Nat) (l : List UInt8) : (repB k l).length = k * l.length := by simp [repB]
set_option maxRecDepth 100000 in
set_option maxHeartbeats 1000000 in
theorem text_c (s : ByteArray) (hs : s.size ≤ 1000) (m : Nat) (hm : m ≤ 1000) (w : World) : Calls Tryz.prog 14 #[.string s, .int .i64 (m : Nat)] w fun e w' => e = .returned (.string ⟨(repB m s.data.toList).toArray⟩) ∧ Below w.heap.size w w' := by
  obtain ⟨i0, hi, hz0, hz1, hz2⟩ := info_parts infoU8
  have hsl : s.data.toList.length = s.size := by simp
  go_enter Tryz.func14, Tryz.ntmps14
  go_upto_region 3 with fail
  have hB0 : Below w.heap.size w (w.alloc (.cells #[] 5)) := (Below.refl _ w).alloc (Nat.le_refl _) _
  have ho0 : (w.alloc (.cells #[] 5)).ownsRow w.heap.size 5 1 (.slice (some ⟨w.heap.size, 0, none⟩) 0 0) 0 [] := ⟨rfl, .inr ⟨w.heap.size, 0, _, rfl, Nat.le_refl _, World.alloc_heap_new w _, Nat.le_refl _, by unfold maxLen; omega, rfl, rfl⟩⟩
  generalize w.alloc _ = W0 at *
  go_loopw [5, 6] (fun bv iv wr => ∃ k : Nat, k ≤ m ∧ iv = .int .i64 (k : Nat) ∧ (∃ o cap, bv = .slice o (repB k s.data.toList).length cap) ∧ wr.ownsRow w.heap.size 5 1 bv (repB k s.data.toList).length (bytesV (repB k s.data.toList)) ∧ Below w.heap.size w wr) (fun _ iv _ => m - (intOf iv).toNat)
  case atStart => exact ⟨0, Nat.zero_le _, rfl, ⟨_, _, rfl⟩, ho0, hB0⟩
  case round =>
    obtain ⟨k, hk, rfl, ⟨o, cap, rfl⟩, ho, hB⟩ := hrel
    clear ho0 hB0
    have hkl := repB_len k s.data.toList
    by_cases hlt : k < m
    · have j1 : (k : Int) < m := by omega
      have j2 : IntKind.i64.wrap ((k : Int) + 1) = ((k + 1 : Nat) : Int) := by rw [IntKind.wrap_i64]; omega
      have hbig : (repB k s.data.toList).length + s.size ≤ 2000000 := by
        rw [hkl, hsl]
        have : k * s.size ≤ 1000 * 1000 := Nat.mul_le_mul (by omega) hs
        omega
      obtain ⟨v', w', hrun, h2, h3, _⟩ := Lib.run_append_own_string (P := Tryz.prog) wr w.heap.size 57 9 57 5 i0 Tryz.underlying57 Tryz.underlying9 hi hz0 hz1 hz2 _ _ _ ho s (by unfold maxLen; omega) (by omega) hB.size
      have hb' : Below w.heap.size w w' := hB.trans (((It.Upd.refl (fun k => w.heap.size ≤ k) wr).grown h3 (fun k e => .inl (ho.lt k e).1)).below hB.size (fun k e => e))
      have ho' : w'.ownsRow w.heap.size 5 1 v' (repB (k + 1) s.data.toList).length (bytesV (repB (k + 1) s.data.toList)) := by
        rw [repB_succ, List.length_append, hsl]
        have e2 : bytesV (repB k s.data.toList ++ s.data.toList) = bytesV (repB k s.data.toList) ++ Lib.strCells s := by simp [bytesV, Lib.strCells]
        rw [e2]
        exact h2
      have HB := hid hb'
      have HO := hid ho'
      obtain ⟨o', c', hv'⟩ := slice_ofX ho'
      subst hv'
      clear hb' ho' h2 h3 ho hB
      go_wp2_with (at_builtin; refine Lib.wpList_append_run _ rfl (.tmp 13) (.tmp 14) 57 9 rfl _ _ (by simp [Act.eval]) (by simp [Act.eval]) _ _ hrun ?_)
      go_roundw
      case rel => exact ⟨k + 1, by omega, rfl, ⟨_, _, rfl⟩, HO.out, HB.out⟩
      case measure => show m - ((k + 1 : Nat) : Int).toNat < m - (k : Int).toNat; omega
    · have j1 : ¬ (k : Int) < m := by omega
      have e : k = m := by omega
      subst e
      have hc := conv_own _ ho
      have HB := hid hB
      clear ho hB hkl hsl
      go_wp2
      go_ret
      exact ⟨rfl, HB.out⟩
end Go.Proofs.YtfooijjfjmpigaaGreatDoor.W.Tr
