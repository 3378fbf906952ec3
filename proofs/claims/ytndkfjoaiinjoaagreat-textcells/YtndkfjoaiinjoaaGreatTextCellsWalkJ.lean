import Derived.Test.YtndkfjoaiinjoaaGreatBase26
import Derived.Test.YtndkfjoaiinjoaaGreatCellOpenJ
/- TextCells: the walk. -/
namespace Go.Proofs.YtndkfjoaiinjoaaGreat.W
open Go.ChangeShapes Go.WideShapes Go.RowKit Go.Shelf
set_option linter.unusedVariables false
theorem lbox_s (hp : Value) (t : ByteArray) (hs : t.size ≤ 5) (W : World) : Calls Tryz.prog 8 #[hp, .string t, .slice none 0 0] W fun e w' => e = .returned (.tuple #[.int .u64 (txtW t), .bool true]) ∧ Below W.heap.size W w' := by
  have cx := box_text hp (.slice none 0 0) t (fun w e w' => e = .returned (.tuple #[.int .u64 (txtW t), .int .i64 0]) ∧ w' = w) (fun w e w' h => ⟨_, _, h.1⟩) W (fun w _ => boxText_small _ _ t hs w)
  generalize txtW t = X at *
  clear hs
  go_enter Tryz.func8, Tryz.ntmps8
  go_wp2_with (go_at_call 16; (with_reducible refine cx.mono ?_); rintro e w3 ⟨w, hB, rfl, rfl⟩; clear cx)
  go_ret2
  exact ⟨rfl, hB⟩
set_option maxRecDepth 100000 in
set_option maxHeartbeats 1000000 in
theorem cells_core (s t : ByteArray) (i : Int) (hi0 : -9223372036854775808 ≤ i) (hi1 : i < 9223372036854775808) (hs : s.size ≤ 5) (ht : t.size ≤ 100) (W : World) : Calls Tryz.prog 4 #[.string s, .string t, .int .i64 i] W fun e w' => e = .returned (.bool true) ∧ Below W.heap.size W w' := by
  have cn := hf_new (Below.refl W.heap.size W) 1000 (by decide)
  rw [show ((1000 : Nat) : Int) = 1000 from rfl] at cn
  have g1 : ¬ (s.size : Int) > 5 := by omega
  have g2 : ¬ (t.size : Int) > 100 := by omega
  have m1 : ¬ 9223372036854775807 < s.size + t.size := by omega
  have ns := hid (tn_le s 5 hs)
  have nt := hid (tn_le t 100 ht)
  have nst := hid (tn_le (s ++ t) 105 (by rw [ByteArray.size_append]; omega))
  have ls := hid (show s.size ≤ 8388608 by omega)
  have lt := hid (show t.size ≤ 8388608 by omega)
  have lst := hid (show (s ++ t).size ≤ 8388608 by rw [ByteArray.size_append]; omega)
  have hs0 : sumH [] = 0 := rfl
  have lid0 : lid [] = 0 := rfl
  have h5 := cls_is5 _ (txtW_cls s hs)
  obtain ⟨a, ea⟩ : ∃ a : Nat, (a : Int) = txtW s := ⟨(txtW s).toNat, Int.toNat_of_nonneg (by omega)⟩
  have Ia : ∀ H, IsTxt H a s := fun H => .inl ⟨hs, ea⟩
  have c1 := fun hp W => lbox_s hp s hs W
  rw [← ea] at c1 h5
  have hne : Hid (a ≠ hw 0) := hid (by unfold hw; omega)
  have IA := hid Ia
  clear hs ht h5 ea Ia
  go_enter Tryz.func4, Tryz.ntmps4
  go_upto_region 7 with (first | (go_at_call 7; (with_reducible refine cn.mono ?_); rintro e W1 ⟨hb, rfl, q1, hB1⟩; clear cn) | (go_at_call 8; (with_reducible refine (c1 _ _).mono ?_); rintro e W2 ⟨rfl, hB2⟩; clear c1))
  have q2 := q1.below' hB2
  have c2 := hf_text q2 s ls.out (by have := ns.out; omega) (.slice none 0 0) [] (words_nil' W2)
  rw [lid0] at c2
  go_upto_region 8 with (go_at_call 13; (with_reducible refine c2.mono ?_); rintro e W3 ⟨rfl, q3, -⟩; clear c2)
  have Ib : IsTxt (putH [] 0 (some (.text (strB s)))) (hw 0) s := .inr ⟨0, rfl, by omega, rfl⟩
  have S3 : sumH (putH [] 0 (some (.text (strB s)))) ≤ 2 := by
    have := putH_sum [] (.text (strB s))
    rw [lid0, text_need] at this
    have := ns.out
    unfold tneed at this
    omega
  have L3 : (putH [] 0 (some (.text (strB s)))).length ≤ 1 := Nat.le_refl _
  generalize putH [] 0 (some (.text (strB s))) = H3 at *
  generalize hw 0 = b at *
  have hne' : ¬ (a : Int) = (b : Int) := fun e => hne.out (by omega)
  have c3 := lbox1 q3 b Ib.lt t lt.out (by have := nt.out; omega) (by omega)
  clear q1 q2 hB1 hB2 hne
  go_upto_region 9 with (go_at_call 8; (with_reducible refine c3.mono ?_); rintro e W4 ⟨c, H4, rfl, q4, E4, I4, s4, l4⟩; clear c3)
  have Ib4 := hid (Ib.ext E4)
  have Ia4 := hid (IA.out H4)
  have Ic4 := hid I4
  have S4 : Hid (sumH H4 ≤ 17) := hid (by have := nt.out; omega)
  have L4 : Hid (H4.length ≤ 2) := hid (by omega)
  have HQ4 := hid q4
  clear q3 q4 E4 I4 Ib s4 l4 S3 L3
  go_upto_region 12 with fail
  have bA : Below W4.heap.size W4 (W4.alloc (.cells #[.int .u64 (b : Nat), .int .u64 (c : Nat)] 26)) := (Below.refl _ W4).alloc (Nat.le_refl _) _
  have q5 := HQ4.out.below' bA
  have wl : WordsAt (W4.alloc (.cells #[.int .u64 (b : Nat), .int .u64 (c : Nat)] 26)) (.slice (some ⟨W4.heap.size, 0, none⟩) 2 2) [b, c] := words_lit W4 [b, c] (by simp) (by intro v hv; simp at hv; rcases hv with rfl | rfl; exact Ib4.out.lt; exact Ic4.out.lt)
  clear bA HQ4
  generalize W4.heap.size = lbk at *
  generalize W4.alloc (.cells #[.int .u64 (b : Nat), .int .u64 (c : Nat)] 26) = W5 at *
  have d1 := of_c q5.2.choose_spec.1 b s Ib4.out
  have d2 := fun w hB => len_c (q5.2.choose_spec.1.below (W' := w) hB) b s Ib4.out
  have d3 := fun w hB => byte_c (q5.2.choose_spec.1.below (W' := w) hB) a s Ia4.out i hi0 hi1
  have d4 := fun w hB => byte_c (q5.2.choose_spec.1.below (W' := w) hB) b s Ib4.out i hi0 hi1
  have d5 := fun w hB => compare_c (q5.2.choose_spec.1.below (W' := w) hB) a c s t Ia4.out Ic4.out (by have := ls.out; omega) (by have := lt.out; omega)
  have d6 := fun w hB => compare_c (q5.2.choose_spec.1.below (W' := w) hB) b c s t Ib4.out Ic4.out (by have := ls.out; omega) (by have := lt.out; omega)
  have Q5 := hid q5
  have WL := hid wl
  clear q5 wl
  generalize byteR s i = br at *
  generalize byteE s i = be at *
  generalize ordL (byL s) (byL t) = od at *
  go_upto_region 14 with (first | (go_at_call 11; (with_reducible refine d1.mono ?_); rintro e W6 ⟨rfl, B6⟩; clear d1) | (go_at_call 14; (with_reducible refine (d2 _ B6).mono ?_); rintro e W7 ⟨rfl, B7⟩; clear d2))
  have C7 := B6.trans (B7.mono B6.size)
  clear B6 B7
  go_upto_region 17 with (go_at_call 15; (with_reducible refine (d3 _ C7).mono ?_); rintro e W8 ⟨rfl, B8⟩; clear d3)
  have C8 := C7.trans (B8.mono C7.size)
  clear C7 B8
  go_upto_region 18 with (go_at_call 15; (with_reducible refine (d4 _ C8).mono ?_); rintro e W9 ⟨rfl, B9⟩; clear d4)
  have C9 := C8.trans (B9.mono C8.size)
  clear C8 B9
  go_upto_region 19 with (go_at_call 10; (with_reducible refine (d5 _ C9).mono ?_); rintro e W10 ⟨rfl, B10⟩; clear d5)
  have C10 := C9.trans (B10.mono C9.size)
  clear C9 B10
  go_upto_region 20 with (go_at_call 10; (with_reducible refine (d6 _ C10).mono ?_); rintro e W11 ⟨rfl, B11⟩; clear d6)
  have C11 := C10.trans (B11.mono C10.size)
  clear C10 B11
  have q11 := Q5.out.below' C11
  have c4 := concat_c q11 _ _ (words_below WL.out C11) (by simp) b c s t Ib4.out Ic4.out lst.out (by have := S4.out; have := nst.out; omega) (by have := L4.out; omega)
  clear C11
  go_upto_region 23 with (go_at_call 9; (with_reducible refine c4.mono ?_); rintro e W12 ⟨y, H12, rfl, q12, E12, I12, s12, l12, U12⟩; clear c4)
  have c5 := of_c q12.2.choose_spec.1 y _ I12
  have b12 := hid q12.1
  have aw := fun w => awake8_c w
  clear q11 q12 E12 I12 s12 l12 U12
  go_wp2_with (first | (go_at_call 11; (with_reducible refine c5.mono ?_); rintro e W13 ⟨rfl, B13⟩; clear c5) | (go_at_call 12; (with_reducible refine (aw _).mono ?_); rintro e W14 ⟨rfl, B14⟩; clear aw))
  go_ret
  have B14' := B13.trans (B14.mono B13.size)
  exact ⟨rfl, b12.out.trans (B14'.mono b12.out.size)⟩
set_option maxRecDepth 100000 in
theorem textCells_walk (s0 : ByteArray) (h0 : s0.size ≤ maxLen) (s1 : ByteArray) (h1 : s1.size ≤ maxLen) (i : Int) (hi : (Lit.int .i64 i).wf = true) (W : World) : Calls Tryz.prog 4 #[.string s0, .string s1, .int .i64 i] W fun e w' => e = .returned (.bool true) ∧ Below W.heap.size W w' := by
  have hii : -9223372036854775808 ≤ i ∧ i < 9223372036854775808 := by
    simp [Lit.wf] at hi
    have e1 : IntKind.i64.min = -9223372036854775808 := by decide
    have e2 : IntKind.i64.max = 9223372036854775807 := by decide
    omega
  by_cases c0 : s0.size ≤ 5
  · by_cases c1 : s1.size ≤ 100
    · exact cells_core s0 s1 i hii.1 hii.2 c0 c1 W
    · have g1 : ¬ (s0.size : Int) > 5 := by omega
      have g2 : (s1.size : Int) > 100 := by omega
      clear h0 h1 c0 c1 hi hii
      go_enter Tryz.func4, Tryz.ntmps4; go_wp2; go_ret; exact ⟨rfl, Below.refl _ _⟩
  · have g1 : (s0.size : Int) > 5 := by omega
    clear h0 h1 c0 hi hii
    go_enter Tryz.func4, Tryz.ntmps4; go_wp2; go_ret; exact ⟨rfl, Below.refl _ _⟩
end Go.Proofs.YtndkfjoaiinjoaaGreat.W
