/- Package lex: the iterator. -/
import Derived.Test.YtdoojooepkdlhaaDoorX1k
import Derived.Scope
namespace Go.Proofs.YtdoojooepkdlhaaDoor.W
open Go.ChangeShapes Go.WideShapes Go.RowKit Go.Shelf
set_option linter.unusedVariables false
theorem get_of_drop {α : Type} {l : List α} {i : Nat} {x : α} {r : List α} (h : l.drop i = x :: r) : ∃ hi : i < l.length, l[i] = x ∧ l.drop (i + 1) = r := by
  have hi : i < l.length := by
    rcases Nat.lt_or_ge i l.length with c | c
    · exact c
    · rw [List.drop_eq_nil_of_le c] at h; cases h
  rw [List.drop_eq_getElem_cons hi] at h
  injection h with h1 h2
  exact ⟨hi, h1, h2⟩
set_option maxHeartbeats 1000000 in
theorem toks_big (s : ByteArray) (hs : s.size ≤ 1000000) (sb : Nat) (big : 65536 < s.size) : It.Iter 11 #[.pointer (some ⟨sb, 0, none⟩)] (valsP s.data.toList) (fun _ W => W.cell? ⟨sb, 0, none⟩ = some (.string s) ∧ Tabs W ∧ MarksIn W) := by
  intro n l J X hn hL hB hY W h0
  have ev : valsP s.data.toList = [yv noTk 0 2 0] := if_pos (by rw [size_list]; exact big)
  rw [ev] at hY ⊢
  show CallsIn Fence.wide n Tryd.prog 11 #[.func (.yield l) #[] #[], .pointer (some ⟨sb, 0, none⟩)] W fun e W' => (∃ v, e = .returned v) ∧ (J 1 W' ∨ X W')
  obtain ⟨g0, -, -⟩ := hL 0 W h0
  have b1 : (s.size : Int) > 65536 := by omega
  have y1 := hY 0 (by simp) W h0
  have y2 : YieldAt Fence.wide (n - 1) Tryd.prog l #[.agg #[.int .i64 0, .int .i64 0, .string ⟨#[]⟩, .int .i64 0, .int .u64 0], .agg #[.int .i64 2, .int .i64 0]] W fun e W' => (e = .returned (.bool true) ∧ J 1 W') ∨ (e = .returned (.bool false) ∧ X W') := y1
  obtain ⟨fn, tmps, assign, body, hy, hR⟩ := y2
  refine callsIn_of_wp Tryd.func11 rfl trivial ?_ rfl
  simp only [Tryd.ntmps11, List.size_toArray, List.length_cons, List.length_nil, Nat.reduceAdd, Nat.reduceSub, Array.replicate_succ, Array.replicate_zero, List.push_toArray, List.append_toArray, List.nil_append, List.cons_append]
  clear hY hL hB y1 ev
  refine wpIn_wide.2 ?_
  refine wp_scope_straight ?_
  go_upto_region 1 with fail
  refine (wpIn_wide (n := n)).1 ?_
  gi_wp2
  refine hR.mono ?_
  rintro e W3 (⟨rfl, hK3⟩ | ⟨rfl, hX3⟩)
  · gi_wp2
    go_wp2
    refine (show ∀ {Q : Exit → Act → World → Prop} {a : Act} {w : World}, Q .ret a w → Exit.noGoto Q .ret a w from fun h => by first | exact h | exact ⟨h, trivial⟩ | (unfold Exit.noGoto; exact h) | simpa [Exit.noGoto] using h) ?_
    refine bodyPost_ret (results_none rfl _ _ _) rfl ?_
    exact ⟨⟨_, rfl⟩, .inl hK3⟩
  · gi_wp2
    go_wp2
    refine (show ∀ {Q : Exit → Act → World → Prop} {a : Act} {w : World}, Q .ret a w → Exit.noGoto Q .ret a w from fun h => by first | exact h | exact ⟨h, trivial⟩ | (unfold Exit.noGoto; exact h) | simpa [Exit.noGoto] using h) ?_
    refine bodyPost_ret (results_none rfl _ _ _) rfl ?_
    exact ⟨⟨_, rfl⟩, .inr hX3⟩
end Go.Proofs.YtdoojooepkdlhaaDoor.W
