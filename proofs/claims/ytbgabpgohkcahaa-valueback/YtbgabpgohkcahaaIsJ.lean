import Derived.Test.YtbgabpgohkcahaaBase0
/- What each class says of a pattern, as numbers. -/
namespace Go.Proofs.Ytbgabpgohkcahaa.W

/-- what each class says of a pattern, as numbers -/
theorem cls_is1 (n : Int) (h : cls n = 1) : n % 9223372036854775808 ≤ 9218868437227405312 ∨ n = 9221120237041090560 := by
  unfold cls at h
  split at h
  · rename_i c
    rcases c with c | c
    · left; unfold nanB at c; simp at c; exact c
    · right; exact c
  · exfalso; revert h; repeat' (first | split | simp)
theorem cls_is3 (n : Int) (h : cls n = 3) : n = 18444492273895866368 := by
  unfold cls at h
  (repeat' split at h) <;> first | assumption | (exfalso; revert h; decide)
theorem cls_is4 (n : Int) (h : cls n = 4) : n = 18444492273895866369 ∨ n = 18444492273895866370 := by
  unfold cls at h
  (repeat' split at h) <;> first | assumption | (exfalso; revert h; decide)
theorem cls_is2 (n : Int) (h : cls n = 2) : 18444773748872577024 ≤ n ∧ n < 18445055223849287680 := by
  unfold cls at h
  (repeat' split at h) <;> first | (exfalso; revert h; decide) | omega
theorem cls_is5 (n : Int) (h : cls n = 5) : 18445055223849287680 ≤ n ∧ n < 18445336698825998336 ∧ txtOk (n % 281474976710656) = true := by
  unfold cls at h
  (repeat' split at h) <;> first | (exfalso; revert h; decide) | exact ⟨by omega, by omega, by assumption⟩
theorem cls_is6 (n : Int) (h : cls n = 6) : 18445336698825998336 ≤ n ∧ n < 18445618173802708992 := by
  unfold cls at h
  (repeat' split at h) <;> first | (exfalso; revert h; decide) | omega
theorem cls_is7 (n : Int) (h : cls n = 7) : 9218868437227405312 < n % 9223372036854775808 := by
  unfold cls at h
  split at h
  · exfalso; revert h; decide
  · rename_i c
    have : ¬ nanB n = false := fun x => c (.inl x)
    simp [nanB] at this
    exact this

end Go.Proofs.Ytbgabpgohkcahaa.W
