import Derived.Test.YtndkfjoaiinjoaaGreatBase30
import Derived.Test.YtndkfjoaiinjoaaGreatCellOpenJ
/- TextHalves: the walk. -/
namespace Go.Proofs.YtndkfjoaiinjoaaGreat.W
open Go.ChangeShapes Go.WideShapes Go.RowKit Go.Shelf
set_option linter.unusedVariables false
set_option maxRecDepth 100000 in
set_option maxHeartbeats 1000000 in
theorem halves_core (s t : ByteArray) (hs : s.size ≤ 1000) (ht : t.size ≤ 1000) (W : World) : Calls Tryz.prog 5 #[.string s, .string t] W fun e w' => e = .returned (.bool true) ∧ Below W.heap.size W w' := by
  have cn := hf_new (Below.refl W.heap.size W) 5000 (by decide)
  rw [show ((5000 : Nat) : Int) = 5000 from rfl] at cn
  have g1 : ¬ (s.size : Int) > 1000 := by omega
  have g2 : ¬ (t.size : Int) > 1000 := by omega
  have w1 : IntKind.i64.wrap ((s.size : Int) + (t.size : Int)) = (s.size : Int) + (t.size : Int) := by rw [IntKind.wrap_i64]; omega
  have w2 : IntKind.i64.wrap (s.size : Int) = (s.size : Int) := by rw [IntKind.wrap_i64]; omega
  have ns := hid (tn_le s 1000 hs)
  have nt := hid (tn_le t 1000 ht)
  have nst := hid (tn_le (s ++ t) 2000 (by rw [ByteArray.size_append]; omega))
  have ls := hid (show s.size ≤ 8388608 by omega)
  have lt := hid (show t.size ≤ 8388608 by omega)
  have lst := hid (show (s ++ t).size ≤ 8388608 by rw [ByteArray.size_append]; omega)
  have zst := hid (show (s ++ t).size = s.size + t.size from ByteArray.size_append)
  have pl := hid (part_left s t)
  have pr := hid (part_right s t)
  have hs0 : sumH [] = 0 := rfl
  clear hs ht
  go_enter Tryz.func5, Tryz.ntmps5
  go_upto_region 6 with (go_at_call 7; (with_reducible refine cn.mono ?_); rintro e W1 ⟨hb, rfl, q1, hB1⟩; clear cn)
  have c1 := box0 q1 s ls.out (by have := ns.out; omega) (by decide)
  go_upto_region 7 with (go_at_call 16; (with_reducible refine c1.mono ?_); rintro e W2 ⟨a, H2, rfl, q2, E2, I2, s2, l2⟩; clear c1)
  simp only [List.length_nil] at l2
  have c2 := box1 q2 a I2.lt t lt.out (by have := ns.out; have := nt.out; omega) (by omega)
  go_upto_region 8 with (go_at_call 16; (with_reducible refine c2.mono ?_); rintro e W3 ⟨b, H3, rfl, q3, E3, I3, s3, l3⟩; clear c2)
  have c3 := concat_c q3 _ [] (words_nil' W3) (by simp) a b s t (I2.ext E3) I3 lst.out (by have := ns.out; have := nt.out; have := nst.out; omega) (by omega)
  go_upto_region 9 with (go_at_call 9; (with_reducible refine c3.mono ?_); rintro e W4 ⟨c, H4, rfl, q4, E4, I4, s4, l4, -⟩; clear c3)
  have Ia := hid ((I2.ext E3).ext E4)
  have Ib := hid (I3.ext E4)
  have Ic := hid I4
  have S4 : Hid (sumH H4 ≤ 510) := hid (by have := ns.out; have := nt.out; have := nst.out; omega)
  have L4 : Hid (H4.length ≤ 3) := hid (by omega)
  have c4 := len_c q4.2.choose_spec.1 c _ Ic.out
  rw [zst.out, show ((s.size + t.size : Nat) : Int) = (s.size : Int) + (t.size : Int) by omega] at c4
  have Q4 := hid q4
  clear q1 q2 q3 q4 E2 E3 E4 I2 I3 I4 s2 s3 s4 l2 l3 l4 hB1
  go_upto_region 10 with (go_at_call 14; (with_reducible refine c4.mono ?_); rintro e W5 ⟨rfl, B5⟩; clear c4)
  have q5 := Q4.out.below' B5
  have c5 := sub2 q5 a b Ia.out.lt Ib.out.lt c _ Ic.out 0 s.size (Nat.zero_le _) (by rw [zst.out]; omega) lst.out s pl.out ls.out (by have := S4.out; have := ns.out; omega) (by have := L4.out; omega)
  rw [show ((0 : Nat) : Int) = 0 from rfl] at c5
  clear B5 Q4
  go_upto_region 13 with (go_at_call 17; (with_reducible refine c5.mono ?_); rintro e W6 ⟨x, H6, rfl, q6, E6, I6, s6, l6⟩; clear c5)
  have c6 := sub3 q6 a b x (Ia.out.ext E6).lt (Ib.out.ext E6).lt I6.lt c _ (Ic.out.ext E6) s.size (s.size + t.size) (Nat.le_add_right _ _) (by rw [zst.out]; exact Nat.le_refl _) lst.out t pr.out lt.out (by have := S4.out; have := ns.out; have := nt.out; omega) (by have := L4.out; omega)
  rw [show ((s.size + t.size : Nat) : Int) = (s.size : Int) + (t.size : Int) by omega] at c6
  go_upto_region 14 with (go_at_call 17; (with_reducible refine c6.mono ?_); rintro e W7 ⟨y, H7, rfl, q7, E7, I7, s7, l7⟩; clear c6)
  have Ja := hid ((Ia.out.ext E6).ext E7)
  have Jb := hid ((Ib.out.ext E6).ext E7)
  have Jx := hid (I6.ext E7)
  have Jy := hid I7
  have d1 := of_c q7.2.choose_spec.1 x s Jx.out
  have d2 := fun w hB => of_c (q7.2.choose_spec.1.below (W' := w) hB) y t Jy.out
  have d3 := fun w hB => compare_c (q7.2.choose_spec.1.below (W' := w) hB) x a s s Jx.out Ja.out (by have := ls.out; omega) (by have := ls.out; omega)
  have d4 := fun w hB => compare_c (q7.2.choose_spec.1.below (W' := w) hB) a b s t Ja.out Jb.out (by have := ls.out; omega) (by have := lt.out; omega)
  have d5 := fun w hB => compare_c (q7.2.choose_spec.1.below (W' := w) hB) b a t s Jb.out Ja.out (by have := lt.out; omega) (by have := ls.out; omega)
  rw [ordL_self] at d3
  rw [ordL_neg] at d5
  have he := eq_ord s t
  have hlt := lt_ord s t
  have hr := ordL_range (byL s) (byL t)
  have b7 := hid q7.1
  have aw := fun w => awake8_c w
  clear q5 q6 q7 E6 E7 I6 I7 s6 s7 l6 l7 Ia Ib Ic Ja Jb Jx Jy S4 L4
  generalize ordL (byL s) (byL t) = od at *
  go_upto_region 17 with (go_at_call 11; (with_reducible refine d1.mono ?_); rintro e W8 ⟨rfl, B8⟩; clear d1)
  go_upto_region 18 with (go_at_call 11; (with_reducible refine (d2 _ B8).mono ?_); rintro e W9 ⟨rfl, B9⟩; clear d2)
  have C9 := B8.trans (B9.mono B8.size)
  clear B8 B9
  go_upto_region 19 with (go_at_call 10; (with_reducible refine (d3 _ C9).mono ?_); rintro e W10 ⟨rfl, B10⟩; clear d3)
  have C10 := C9.trans (B10.mono C9.size)
  clear C9 B10
  go_upto_region 20 with (go_at_call 10; (with_reducible refine (d4 _ C10).mono ?_); rintro e W11 ⟨rfl, B11⟩; clear d4)
  have C11 := C10.trans (B11.mono C10.size)
  clear C10 B11
  go_upto_region 21 with (go_at_call 10; (with_reducible refine (d5 _ C11).mono ?_); rintro e W12 ⟨rfl, B12⟩; clear d5)
  have C12 := hid (C11.trans (B12.mono C11.size))
  clear C11 B12
  rcases hr with rfl | rfl | rfl
  · have he' : (s.toList == t.toList) = false := by rw [he]; rfl
    have hlt' : Op.bytesLess s.toList t.toList = true := by rw [hlt]; rfl
    clear he hlt
    go_wp2_with (go_at_call 12; (with_reducible refine (aw _).mono ?_); rintro e W14 ⟨rfl, B14⟩; clear aw)
    go_ret
    have B14' := C12.out.trans (B14.mono C12.out.size)
    exact ⟨rfl, b7.out.trans (B14'.mono b7.out.size)⟩
  · have he' : (s.toList == t.toList) = true := by rw [he]; rfl
    have hlt' : Op.bytesLess s.toList t.toList = false := by rw [hlt]; rfl
    clear he hlt
    go_wp2_with (go_at_call 12; (with_reducible refine (aw _).mono ?_); rintro e W14 ⟨rfl, B14⟩; clear aw)
    go_ret
    have B14' := C12.out.trans (B14.mono C12.out.size)
    exact ⟨rfl, b7.out.trans (B14'.mono b7.out.size)⟩
  · have he' : (s.toList == t.toList) = false := by rw [he]; rfl
    have hlt' : Op.bytesLess s.toList t.toList = false := by rw [hlt]; rfl
    clear he hlt
    go_wp2_with (go_at_call 12; (with_reducible refine (aw _).mono ?_); rintro e W14 ⟨rfl, B14⟩; clear aw)
    go_ret
    have B14' := C12.out.trans (B14.mono C12.out.size)
    exact ⟨rfl, b7.out.trans (B14'.mono b7.out.size)⟩
set_option maxRecDepth 100000 in
theorem textHalves_walk (s0 : ByteArray) (h0 : s0.size ≤ maxLen) (s1 : ByteArray) (h1 : s1.size ≤ maxLen) (W : World) : Calls Tryz.prog 5 #[.string s0, .string s1] W fun e w' => e = .returned (.bool true) ∧ Below W.heap.size W w' := by
  by_cases c0 : s0.size ≤ 1000
  · by_cases c1 : s1.size ≤ 1000
    · exact halves_core s0 s1 c0 c1 W
    · have g1 : ¬ (s0.size : Int) > 1000 := by omega
      have g2 : (s1.size : Int) > 1000 := by omega
      clear h0 h1 c0 c1
      go_enter Tryz.func5, Tryz.ntmps5; go_wp2; go_ret; exact ⟨rfl, Below.refl _ _⟩
  · have g1 : (s0.size : Int) > 1000 := by omega
    clear h0 h1 c0
    go_enter Tryz.func5, Tryz.ntmps5; go_wp2; go_ret; exact ⟨rfl, Below.refl _ _⟩
end Go.Proofs.YtndkfjoaiinjoaaGreat.W
