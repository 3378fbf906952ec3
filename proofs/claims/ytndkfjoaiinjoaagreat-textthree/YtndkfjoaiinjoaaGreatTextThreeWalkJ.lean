import Derived.Test.YtndkfjoaiinjoaaGreatBase26
import Derived.Test.YtndkfjoaiinjoaaGreatCellOpenJ
/- TextThree: the walk. -/
namespace Go.Proofs.YtndkfjoaiinjoaaGreat.W
open Go.ChangeShapes Go.WideShapes Go.RowKit Go.Shelf
set_option linter.unusedVariables false
set_option maxRecDepth 100000 in
set_option maxHeartbeats 1000000 in
theorem three_core (a b c : ByteArray) (ha : a.size ≤ 300) (hb' : b.size ≤ 300) (hc : c.size ≤ 300) (W : World) : Calls Tryz.prog 3 #[.string a, .string b, .string c] W fun e w' => e = .returned (.bool true) ∧ Below W.heap.size W w' := by
  have cn := hf_new (Below.refl W.heap.size W) 3000 (by decide)
  rw [show ((3000 : Nat) : Int) = 3000 from rfl] at cn
  have g1 : ¬ (a.size : Int) > 300 := by omega
  have g2 : ¬ (b.size : Int) > 300 := by omega
  have g3 : ¬ (c.size : Int) > 300 := by omega
  have m1 : ¬ 9223372036854775807 < a.size + b.size := by omega
  have m2 : ¬ 9223372036854775807 < a.size + b.size + c.size := by omega
  have na := hid (tn_le a 300 ha)
  have nb := hid (tn_le b 300 hb')
  have nc := hid (tn_le c 300 hc)
  have nab := hid (tn_le (a ++ b) 600 (by rw [ByteArray.size_append]; omega))
  have nbc := hid (tn_le (b ++ c) 600 (by rw [ByteArray.size_append]; omega))
  have nabc := hid (tn_le ((a ++ b) ++ c) 900 (by rw [ByteArray.size_append, ByteArray.size_append]; omega))
  have nabc' := hid (tn_le (a ++ (b ++ c)) 900 (by rw [ByteArray.size_append, ByteArray.size_append]; omega))
  have la := hid (show a.size ≤ 8388608 by omega)
  have lb := hid (show b.size ≤ 8388608 by omega)
  have lc := hid (show c.size ≤ 8388608 by omega)
  have lab := hid (show (a ++ b).size ≤ 8388608 by rw [ByteArray.size_append]; omega)
  have lbc := hid (show (b ++ c).size ≤ 8388608 by rw [ByteArray.size_append]; omega)
  have labc := hid (show ((a ++ b) ++ c).size ≤ 8388608 by rw [ByteArray.size_append, ByteArray.size_append]; omega)
  have labc' := hid (show (a ++ (b ++ c)).size ≤ 8388608 by rw [ByteArray.size_append, ByteArray.size_append]; omega)
  have hs0 : sumH [] = 0 := rfl
  clear ha hb' hc
  go_enter Tryz.func3, Tryz.ntmps3
  go_upto_region 6 with (go_at_call 7; (with_reducible refine cn.mono ?_); rintro e W1 ⟨hb, rfl, q1, hB1⟩; clear cn)
  have c1 := lbox0 q1 a la.out (by have := na.out; omega) (by decide)
  go_upto_region 7 with (go_at_call 8; (with_reducible refine c1.mono ?_); rintro e W2 ⟨x, H2, rfl, q2, E2, I2, s2, l2⟩; clear c1)
  simp only [List.length_nil] at l2
  have c2 := lbox1 q2 x I2.lt b lb.out (by have := na.out; have := nb.out; omega) (by omega)
  go_upto_region 8 with (go_at_call 8; (with_reducible refine c2.mono ?_); rintro e W3 ⟨y, H3, rfl, q3, E3, I3, s3, l3⟩; clear c2)
  have c3 := lbox2 q3 x y I2.lt I3.lt c lc.out (by have := na.out; have := nb.out; have := nc.out; omega) (by omega)
  go_upto_region 9 with (go_at_call 8; (with_reducible refine c3.mono ?_); rintro e W4 ⟨z, H4, rfl, q4, E4, I4, s4, l4⟩; clear c3)
  go_upto_region 10 with fail
  have J1 := hid ((I2.ext E3).ext E4)
  have J2 := hid (I3.ext E4)
  have J3 := hid I4
  have S4 : Hid (sumH H4 ≤ 117) := hid (by have := na.out; have := nb.out; have := nc.out; omega)
  have L4 : Hid (H4.length ≤ 3) := hid (by omega)
  have bA : Below W4.heap.size W4 (W4.alloc (.cells #[.int .u64 (x : Nat), .int .u64 (y : Nat), .int .u64 (z : Nat)] 26)) := (Below.refl _ W4).alloc (Nat.le_refl _) _
  have q5 := q4.below bA
  have o5 : Mine W (W4.alloc (.cells #[.int .u64 (x : Nat), .int .u64 (y : Nat), .int .u64 (z : Nat)] 26)) _ (.slice (some ⟨W4.heap.size, 0, none⟩) 3 3) [x, y, z] := mine_lit (W := W4) q4.1.size [x, y, z] (by intro v hv; simp at hv; rcases hv with rfl | rfl | rfl; exact J1.out.lt; exact J2.out.lt; exact J3.out.lt) (by simp)
  have o5' := o5.sub (K' := fun k => k < W.heap.size ∨ (W4.heap.size ≤ k ∧ k < (W4.alloc (.cells #[.int .u64 (x : Nat), .int .u64 (y : Nat), .int .u64 (z : Nat)] 26)).heap.size)) (fun k e => .inr e)
  clear q1 q2 q3 q4 E2 E3 E4 I2 I3 I4 s2 s3 s4 l2 l3 l4 o5 bA hB1
  generalize W4.heap.size = lbk at *
  generalize (fun k => k < W.heap.size ∨ (lbk ≤ k ∧ k < (W4.alloc (.cells #[.int .u64 (x : Nat), .int .u64 (y : Nat), .int .u64 (z : Nat)] 26)).heap.size)) = K5 at *
  generalize W4.alloc (.cells #[.int .u64 (x : Nat), .int .u64 (y : Nat), .int .u64 (z : Nat)] 26) = W5 at *
  have c4 := concat_c q5 _ _ o5'.words (by simp) x y a b J1.out J2.out lab.out (by have := S4.out; have := nab.out; omega) (by have := L4.out; omega)
  go_upto_region 11 with (go_at_call 9; (with_reducible refine c4.mono ?_); rintro e W6 ⟨p, H6, rfl, q6, E6, I6, s6, l6, U6⟩; clear c4)
  have o6 := o5'.upd U6
  have c5 := concat_c q6 _ _ o6.words (by simp) p z (a ++ b) c I6 (J3.out.ext E6) labc.out (by have := S4.out; have := nab.out; have := nabc.out; omega) (by have := L4.out; omega)
  go_upto_region 12 with (go_at_call 9; (with_reducible refine c5.mono ?_); rintro e W7 ⟨v7, H7, rfl, q7, E7, I7, s7, l7, U7⟩; clear c5)
  have o7 := o6.upd U7
  obtain ⟨vl, W8, hrun, q8, o8, U8⟩ := mine_append q7 29 _ _ o7 v7 I7.lt (by simp)
  have J1b := hid ((J1.out.ext E6).ext E7)
  have J2b := hid ((J2.out.ext E6).ext E7)
  have J3b := hid ((J3.out.ext E6).ext E7)
  have J7b := hid I7
  have S7 : Hid (sumH H7 ≤ 400) := hid (by have := S4.out; have := nab.out; have := nabc.out; omega)
  have L7 : Hid (H7.length ≤ 5) := hid (by have := L4.out; omega)
  obtain ⟨ol, capl, hvl⟩ := slice_of (owns_base o8.row (b' := 0) (fun _ _ => Nat.zero_le _))
  subst hvl
  clear q5 q6 q7 E6 E7 I6 I7 s6 s7 l6 l7 U6 U7 U8 o5' o6 o7
  simp only [List.length_append, List.length_cons, List.length_nil, Nat.zero_add, Nat.reduceAdd] at hrun o8
  go_upto_region 13 with (at_builtin; refine Lib.wpList_append_run _ rfl (.tmp 94) (.tmp 96) 29 29 rfl _ _ (by simp [Act.eval]) (by simp [Act.eval]) _ _ hrun ?_)
  clear hrun
  generalize (fun k => K5 k ∨ (W7.heap.size ≤ k ∧ k < W8.heap.size)) = K8 at *
  have c6 := concat_c q8 _ _ o8.words (by simp) y z b c J2b.out J3b.out lbc.out (by have := S7.out; have := nbc.out; omega) (by have := L7.out; omega)
  go_upto_region 14 with (go_at_call 9; (with_reducible refine c6.mono ?_); rintro e W9 ⟨v9, H9, rfl, q9, E9, I9, s9, l9, U9⟩; clear c6)
  have o9 := o8.upd U9
  have c7 := concat_c q9 _ _ o9.words (by simp) x v9 a (b ++ c) (J1b.out.ext E9) I9 labc'.out (by have := S7.out; have := nbc.out; have := nabc'.out; omega) (by have := L7.out; omega)
  go_upto_region 15 with (go_at_call 9; (with_reducible refine c7.mono ?_); rintro e W10 ⟨v10, H10, rfl, q10, E10, I10, s10, l10, U10⟩; clear c7)
  have eq3 : a ++ b ++ c = a ++ (b ++ c) := ByteArray.append_assoc
  have c8 := compare_c q10.2.choose_spec.1 v7 v10 (a ++ b ++ c) (a ++ (b ++ c)) ((J7b.out.ext E9).ext E10) I10 (by have := labc.out; omega) (by have := labc'.out; omega)
  rw [eq3, ordL_self] at c8
  have c9 := fun w hB => of_c (q10.2.choose_spec.1.below (W' := w) hB) v10 _ I10
  have b10 := hid q10.1
  have aw := fun w => awake8_c w
  clear q8 q9 q10 E9 E10 I9 I10 s9 s10 l9 l10 U9 U10 o8 o9 J1b J2b J3b J7b
  go_upto_region 17 with (first | (go_at_call 10; (with_reducible refine c8.mono ?_); rintro e W11 ⟨rfl, B11⟩; clear c8) | (go_at_call 11; (with_reducible refine (c9 _ B11).mono ?_); rintro e W12 ⟨rfl, B12⟩; clear c9))
  have m3 : ¬ 9223372036854775807 < (a ++ b).size + c.size := by rw [ByteArray.size_append]; exact m2
  clear m2
  go_wp2_with (go_at_call 12; (with_reducible refine (aw _).mono ?_); rintro e W13 ⟨rfl, B13⟩; clear aw)
  go_ret
  have B12' := B11.trans (B12.mono B11.size)
  have B13' := B12'.trans (B13.mono B12'.size)
  exact ⟨rfl, b10.out.trans (B13'.mono b10.out.size)⟩
set_option maxRecDepth 100000 in
theorem textThree_walk (s0 : ByteArray) (h0 : s0.size ≤ maxLen) (s1 : ByteArray) (h1 : s1.size ≤ maxLen) (s2 : ByteArray) (h2 : s2.size ≤ maxLen) (W : World) : Calls Tryz.prog 3 #[.string s0, .string s1, .string s2] W fun e w' => e = .returned (.bool true) ∧ Below W.heap.size W w' := by
  by_cases c0 : s0.size ≤ 300
  · by_cases c1 : s1.size ≤ 300
    · by_cases c2 : s2.size ≤ 300
      · exact three_core s0 s1 s2 c0 c1 c2 W
      · have g1 : ¬ (s0.size : Int) > 300 := by omega
        have g2 : ¬ (s1.size : Int) > 300 := by omega
        have g3 : (s2.size : Int) > 300 := by omega
        clear h0 h1 h2 c0 c1 c2
        go_enter Tryz.func3, Tryz.ntmps3; go_wp2; go_ret; exact ⟨rfl, Below.refl _ _⟩
    · have g1 : ¬ (s0.size : Int) > 300 := by omega
      have g2 : (s1.size : Int) > 300 := by omega
      clear h0 h1 h2 c0 c1
      go_enter Tryz.func3, Tryz.ntmps3; go_wp2; go_ret; exact ⟨rfl, Below.refl _ _⟩
  · have g1 : (s0.size : Int) > 300 := by omega
    clear h0 h1 h2 c0
    go_enter Tryz.func3, Tryz.ntmps3; go_wp2; go_ret; exact ⟨rfl, Below.refl _ _⟩
end Go.Proofs.YtndkfjoaiinjoaaGreat.W
