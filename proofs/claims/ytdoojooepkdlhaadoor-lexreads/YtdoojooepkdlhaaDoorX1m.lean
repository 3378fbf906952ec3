/- Package lex: no piece is longer than what is left. -/
import Derived.Test.YtdoojooepkdlhaaDoorX1l
namespace Go.Proofs.YtdoojooepkdlhaaDoor.W
open Go.ChangeShapes Go.WideShapes Go.RowKit Go.Shelf
set_option linter.unusedVariables false
theorem quoteGo_le (f : Nat) : ∀ (r : List UInt8) (n : Nat) (acc : List UInt8), (quoteGo f r n acc).size ≤ n + r.length := by
  induction f with
  | zero => intro r n acc; exact Nat.le_add_right _ _
  | succ f ih =>
    intro r n acc
    cases r with
    | nil => rw [quote_end]; exact Nat.le_add_right _ _
    | cons c r =>
      by_cases h : c = 34
      · rw [quote_stop _ _ _ _ _ (Nat.succ_pos _) h]; show n + 1 ≤ n + (r.length + 1); omega
      · by_cases h2 : (speltP (c :: r)).2 = 0
        · rw [quote_bad _ _ _ _ _ (Nat.succ_pos _) h h2]; exact Nat.le_add_right _ _
        · rw [quote_on _ _ _ _ _ h h2]
          refine Nat.le_trans (ih _ _ _) ?_
          have := (speltP_lt (c :: r)).2
          rw [List.length_drop]
          omega
theorem piece_le (l : List UInt8) : (pieceP l).size ≤ l.length := by
  have hg : (gapP l).size ≤ l.length := by
    show gapN l ≤ _
    unfold gapN
    split
    · exact runN_le _ _
    · exact runN_le _ _
  have hn : (nameP l).size ≤ l.length := by
    unfold nameP
    split
    · exact Nat.zero_le _
    · split
      · exact runN_le _ _
      · exact runN_le _ _
  have hd : (doubleP l).size ≤ l.length := by
    unfold doubleP
    split
    · rename_i c
      have h2 : 2 ≤ l.length := by
        have := congrArg List.length c
        rw [List.length_take] at this
        have e2 : hexT.length = 2 := rfl
        omega
      split
      · exact (dblN_le l h2).2
      · exact (dblN_le l h2).2
    · exact Nat.zero_le _
  have hw : (wholeP l).size ≤ l.length := by
    unfold wholeP
    split
    · exact Nat.zero_le _
    · split
      · exact runN_le _ _
      · exact runN_le _ _
  have hq : (quotedP l).size ≤ l.length := by
    unfold quotedP
    split
    · rename_i c
      refine Nat.le_trans (quoteGo_le _ _ _ _) ?_
      rw [List.length_drop]
      cases l with
      | nil => cases c
      | cons a r => simp; omega
    · exact Nat.zero_le _
  have hm : (markP l).size ≤ l.length := by
    unfold markP
    split
    · rename_i m e
      have := List.find?_some e
      have h2 : l.take m.length = m := by simpa using this
      show m.length ≤ _
      rw [← h2, List.length_take]
      omega
    · exact Nat.zero_le _
  unfold pieceP orPc
  repeat (first | assumption | (split <;> first | assumption | skip))
end Go.Proofs.YtdoojooepkdlhaaDoor.W
