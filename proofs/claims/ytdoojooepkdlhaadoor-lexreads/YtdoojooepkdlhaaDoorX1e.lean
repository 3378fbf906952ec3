/- Package lex: doubles; names. -/
import Derived.Test.YtdoojooepkdlhaaDoorX1d
namespace Go.Proofs.YtdoojooepkdlhaaDoor.W
open Go.ChangeShapes Go.WideShapes Go.RowKit Go.Shelf
set_option linter.unusedVariables false
theorem powN_le (l : List UInt8) : powN l ≤ l.length := by
  unfold powN
  split
  · rename_i d; have := runN_le digB d; simp; omega
  · rename_i d; have := runN_le digB d; simp; omega
  · rename_i d _ _; have := runN_le digB d; simp; omega
  · omega
theorem dblN_le (l : List UInt8) (h : 2 ≤ l.length) : 2 + runN hexPB (l.drop 2) ≤ l.length ∧ dblN l ≤ l.length := by
  have h1 := runN_le hexPB (l.drop 2)
  have h2 := powN_le (l.drop (2 + runN hexPB (l.drop 2)))
  rw [List.length_drop] at h1 h2
  unfold dblN
  omega
set_option maxHeartbeats 400000 in
theorem double_c (s : ByteArray) (hs : s.size ≤ 1000000) (w : World) (ht : Tabs w) : Calls Tryd.prog 22 #[.string s] w fun e w' => e = .returned (pv (doubleP s.data.toList)) ∧ Below w.heap.size w w' := by
  have c1 := fun w => hasPrefix_c s ⟨#[48, 120]⟩ w
  have e : Lib.hasPrefix s.data.toList (⟨#[48, 120]⟩ : ByteArray).data.toList = decide (s.data.toList.take 2 = hexT) := pre2 _
  rw [e] at c1
  unfold doubleP
  by_cases c : s.data.toList.take 2 = hexT
  · rw [if_pos c]
    rw [decide_eq_true c] at c1
    have sl := size_list s
    have h2 : 2 ≤ s.data.toList.length := by
      have := congrArg List.length c
      rw [List.length_take] at this
      have e2 : hexT.length = 2 := rfl
      omega
    obtain ⟨d1, d2⟩ := dblN_le _ h2
    have ld : ∀ k, (⟨(s.data.toList.drop k).toArray⟩ : ByteArray).size ≤ 1000000 := fun k => by
      show (s.data.toList.drop k).length ≤ _
      rw [List.length_drop]; omega
    refine double_core s ⟨(s.data.toList.drop 2).toArray⟩ ⟨(s.data.toList.drop (2 + runN hexPB (s.data.toList.drop 2))).toArray⟩ (s.extract 0 (dblN s.data.toList)) (runN hexPB (s.data.toList.drop 2)) (powN (s.data.toList.drop (2 + runN hexPB (s.data.toList.drop 2)))) (dblN s.data.toList) _ _ hs (by omega) (by omega) (by unfold dblN at d2; omega) (cut_from s 2) (cut_from s _) rfl rfl c1 (fun w => ?_) (fun w => ?_) w ?_
    · have := run_g ⟨(s.data.toList.drop 2).toArray⟩ (Nat.le_trans (ld 2) (by decide)) 39 hexPB eg_hexOrPoint hexOrPoint_c w
      simpa using this
    · have := powerSize_c ⟨(s.data.toList.drop (2 + runN hexPB (s.data.toList.drop 2))).toArray⟩ (ld _) w
      simpa using this
    · have el : (s.extract 0 (dblN s.data.toList)).data.toList = s.data.toList.take (dblN s.data.toList) := by rw [cut_to]
      rw [← el]
      exact parseFloat_c (s.extract 0 (dblN s.data.toList)) (Nat.le_trans (cut_size s _) (Nat.le_trans hs (by decide))) _ (ht.on _)
  · rw [if_neg c]
    rw [decide_eq_false c] at c1
    clear e c hs ht
    unfold pv noPc
    go_enter Tryd.func22, Tryd.ntmps22
    go_wp2_with (go_at_call 38; (with_reducible refine (c1 _).mono ?_); rintro e w' ⟨rfl, rfl⟩)
    refine bodyPost_ret (pc_ret rfl _ _ w.heap.size _ _ _ _ _ _ _ (0, 0) rfl (World.alloc_heap_new w _)) rfl ?_
    exact ⟨rfl, (Below.refl _ w).alloc (Nat.le_refl _) _⟩
end Go.Proofs.YtdoojooepkdlhaaDoor.W
