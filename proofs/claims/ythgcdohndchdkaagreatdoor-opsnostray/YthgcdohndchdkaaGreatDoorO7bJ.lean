import Derived.Test.YthgcdohndchdkaaGreatDoorO7aJ
/- Package ops: two doubles under whatever text; a double turned; frombits. -/
namespace Go.Proofs.YthgcdohndchdkaaGreatDoor.W.Nu
open Go.ChangeShapes Go.WideShapes Go.RowKit Go.Shelf
set_option linter.unusedVariables false
theorem ne_list (a : ByteArray) (l : List UInt8) (h : ¬ a = ⟨l.toArray⟩) : (a.toList == l) = false := by
  cases hq : (a.toList == l) with
  | false => rfl
  | true =>
    have e : a.toList = l := by simpa using hq
    rw [ByteArray.toList_eq] at e
    exact absurd (bytes_inj (b := ⟨l.toArray⟩) (by rw [e])) h
theorem nil_eql (w : World) : (binOp .eql 66 .nilFunc .nilFunc).run Tryz.prog w = .ok (.bool true) w := by kernel_rfl
set_option maxRecDepth 100000 in
theorem bitwise_none (op : ByteArray) (h0 : (op.toList == [43]) = false) (h1 : (op.toList == [45]) = false) (h2 : (op.toList == [42]) = false) (h3 : (op.toList == [47]) = false) (h4 : (op.toList == [47, 47]) = false) (h5 : (op.toList == [37]) = false) (h6 : (op.toList == [61, 61]) = false) (h7 : (op.toList == [33, 61]) = false) (h8 : (op.toList == [38]) = false) (h9 : (op.toList == [124]) = false) (h10 : (op.toList == [94]) = false) (h11 : (op.toList == [60, 60]) = false) (h12 : (op.toList == [62, 62]) = false) (h13 : (op.toList == [60]) = false) (h14 : (op.toList == [60, 61]) = false) (h15 : (op.toList == [62]) = false) (h16 : (op.toList == [62, 61]) = false) (W : World) : Calls Tryz.prog 53 #[.string op] W fun e w' => e = .returned .nilFunc ∧ w' = W := by
  go_enter Tryz.func53, Tryz.ntmps53
  go_wp2
  go_ret
  exact ⟨rfl, rfl⟩
set_option maxRecDepth 100000 in
theorem ordering_none (op : ByteArray) (h0 : (op.toList == [43]) = false) (h1 : (op.toList == [45]) = false) (h2 : (op.toList == [42]) = false) (h3 : (op.toList == [47]) = false) (h4 : (op.toList == [47, 47]) = false) (h5 : (op.toList == [37]) = false) (h6 : (op.toList == [61, 61]) = false) (h7 : (op.toList == [33, 61]) = false) (h8 : (op.toList == [38]) = false) (h9 : (op.toList == [124]) = false) (h10 : (op.toList == [94]) = false) (h11 : (op.toList == [60, 60]) = false) (h12 : (op.toList == [62, 62]) = false) (h13 : (op.toList == [60]) = false) (h14 : (op.toList == [60, 61]) = false) (h15 : (op.toList == [62]) = false) (h16 : (op.toList == [62, 61]) = false) (W : World) : Calls Tryz.prog 54 #[.string op] W fun e w' => e = .returned .nilFunc ∧ w' = W := by
  go_enter Tryz.func54, Tryz.ntmps54
  go_wp2
  go_ret
  exact ⟨rfl, rfl⟩
set_option maxRecDepth 100000 in
theorem binary_none (op : ByteArray) (h0 : (op.toList == [43]) = false) (h1 : (op.toList == [45]) = false) (h2 : (op.toList == [42]) = false) (h3 : (op.toList == [47]) = false) (h4 : (op.toList == [47, 47]) = false) (h5 : (op.toList == [37]) = false) (h6 : (op.toList == [61, 61]) = false) (h7 : (op.toList == [33, 61]) = false) (h8 : (op.toList == [38]) = false) (h9 : (op.toList == [124]) = false) (h10 : (op.toList == [94]) = false) (h11 : (op.toList == [60, 60]) = false) (h12 : (op.toList == [62, 62]) = false) (h13 : (op.toList == [60]) = false) (h14 : (op.toList == [60, 61]) = false) (h15 : (op.toList == [62]) = false) (h16 : (op.toList == [62, 61]) = false) (W : World) : Calls Tryz.prog 27 #[.string op] W fun e w' => e = .returned .nilFunc ∧ w' = W := by
  have hne := nil_neq
  have cb := bitwise_none op h0 h1 h2 h3 h4 h5 h6 h7 h8 h9 h10 h11 h12 h13 h14 h15 h16 W
  have co := ordering_none op h0 h1 h2 h3 h4 h5 h6 h7 h8 h9 h10 h11 h12 h13 h14 h15 h16 W
  go_enter Tryz.func27, Tryz.ntmps27
  go_wp2_with (first | (go_at_call 53; (with_reducible refine cb.mono ?_); rintro e w' ⟨rfl, hw⟩; (have hw' := hw.symm); subst hw'; clear hw) | (go_at_call 54; (with_reducible refine co.mono ?_); rintro e w' ⟨rfl, hw⟩; (have hw' := hw.symm); subst hw'; clear hw))
  go_ret
  exact ⟨rfl, rfl⟩
theorem ns_none (op : ByteArray) (h0 : (op.toList == [43]) = false) (h1 : (op.toList == [45]) = false) (h2 : (op.toList == [42]) = false) (h3 : (op.toList == [47]) = false) (h4 : (op.toList == [47, 47]) = false) (h5 : (op.toList == [37]) = false) (h6 : (op.toList == [61, 61]) = false) (h7 : (op.toList == [33, 61]) = false) (h8 : (op.toList == [38]) = false) (h9 : (op.toList == [124]) = false) (h10 : (op.toList == [94]) = false) (h11 : (op.toList == [60, 60]) = false) (h12 : (op.toList == [62, 62]) = false) (h13 : (op.toList == [60]) = false) (h14 : (op.toList == [60, 61]) = false) (h15 : (op.toList == [62]) = false) (h16 : (op.toList == [62, 61]) = false) (W : World) (hb x y : Nat) (vr : Value) : Calls Tryz.prog 9 #[.pointer (some ⟨hb, 0, none⟩), .string op, .int .u64 (x : Nat), .int .u64 (y : Nat), vr] W (NS W) := by
  have cb := binary_none op h0 h1 h2 h3 h4 h5 h6 h7 h8 h9 h10 h11 h12 h13 h14 h15 h16 W
  have heq := nil_eql
  clear h0 h1 h2 h3 h4 h5 h6 h7 h8 h9 h10 h11 h12 h13 h14 h15 h16
  go_enter Tryz.func9, Tryz.ntmps9
  go_wp2_with (go_at_call 27; (with_reducible refine cb.mono ?_); rintro e w' ⟨rfl, hw⟩; (have hw' := hw.symm); subst hw'; clear hw)
  first | exact ⟨⟨0, 1, rfl, .inr ⟨rfl, .inl rfl⟩⟩, Below.refl _ _⟩ | (go_ret2; exact ⟨⟨0, 1, rfl, .inr ⟨rfl, .inl rfl⟩⟩, Below.refl _ _⟩)
/-- whatever the operator is -/
theorem ns_any (op : ByteArray) (W : World) (hb x y : Nat) (hx : Dbl x) (hy : Dbl y) : Calls Tryz.prog 9 #[.pointer (some ⟨hb, 0, none⟩), .string op, .int .u64 (x : Nat), .int .u64 (y : Nat), .slice none 0 0] W (NS W) := by
  have hr := words_nil' W
  have hl : ([] : List Nat).length ≤ 999000 := by decide
  by_cases h0 : op = ⟨#[43]⟩
  · subst h0; exact ns_add hx hy hr hl
  by_cases h1 : op = ⟨#[45]⟩
  · subst h1; exact ns_sub hx hy hr hl
  by_cases h2 : op = ⟨#[42]⟩
  · subst h2; exact ns_mul hx hy hr hl
  by_cases h3 : op = ⟨#[47]⟩
  · subst h3; exact ns_div hx hy hr hl
  by_cases h4 : op = ⟨#[47, 47]⟩
  · subst h4; exact ns_fdiv hx hy hr hl
  by_cases h5 : op = ⟨#[37]⟩
  · subst h5; exact ns_mod hx hy hr hl
  by_cases h6 : op = ⟨#[61, 61]⟩
  · subst h6; exact ns_eq hx hy hr hl
  by_cases h7 : op = ⟨#[33, 61]⟩
  · subst h7; exact ns_ne hx hy hr hl
  by_cases h8 : op = ⟨#[38]⟩
  · subst h8; exact ns_and hx hy hr hl
  by_cases h9 : op = ⟨#[124]⟩
  · subst h9; exact ns_or hx hy hr hl
  by_cases h10 : op = ⟨#[94]⟩
  · subst h10; exact ns_xor hx hy hr hl
  by_cases h11 : op = ⟨#[60, 60]⟩
  · subst h11; exact ns_shl hx hy hr hl
  by_cases h12 : op = ⟨#[62, 62]⟩
  · subst h12; exact ns_shr hx hy hr hl
  by_cases h13 : op = ⟨#[60]⟩
  · subst h13; exact ns_lt hx hy hr hl
  by_cases h14 : op = ⟨#[60, 61]⟩
  · subst h14; exact ns_le hx hy hr hl
  by_cases h15 : op = ⟨#[62]⟩
  · subst h15; exact ns_gt hx hy hr hl
  by_cases h16 : op = ⟨#[62, 61]⟩
  · subst h16; exact ns_ge hx hy hr hl
  exact ns_none op (ne_list op [43] h0) (ne_list op [45] h1) (ne_list op [42] h2) (ne_list op [47] h3) (ne_list op [47, 47] h4) (ne_list op [37] h5) (ne_list op [61, 61] h6) (ne_list op [33, 61] h7) (ne_list op [38] h8) (ne_list op [124] h9) (ne_list op [94] h10) (ne_list op [60, 60] h11) (ne_list op [62, 62] h12) (ne_list op [60] h13) (ne_list op [60, 61] h14) (ne_list op [62] h15) (ne_list op [62, 61] h16) W hb x y _
theorem eg_negative : ∀ args w, (callFunc 56 args).run Tryz.prog w = .ok (.enter 56 args) w := enters_of Tryz.func56 (by kernel_rfl) rfl
theorem eg_fromPattern : ∀ args w, (callFunc 68 args).run Tryz.prog w = .ok (.enter 68 args) w := enters_of Tryz.func68 (by kernel_rfl) rfl
theorem unary_neg (W : World) : Calls Tryz.prog 29 #[.string ⟨#[45]⟩] W fun e w' => e = .returned (.func (.func 56) #[] #[]) ∧ Below W.heap.size W w' := by
  go_enter Tryz.func29, Tryz.ntmps29
  go_wp2
  go_ret
  exact ⟨rfl, Below.refl _ _⟩
section
variable {W : World} {hb vb : Nat} {vw vr : Value} {R : Ending → World → Prop}
set_option maxRecDepth 100000 in
theorem negative_f (u r : Int) (hv : ∀ k, W.cell? ⟨vb, k, none⟩ = #[.int .i64 3, .int .i64 0, .int .u64 u, .string ⟨#[]⟩, .int .u64 0][k]?)
    (cg : ∀ w, Calls Tryz.prog 129 #[.agg #[.bool false, .int .i64 0, .int .u64 u]] w fun e w' => e = .returned (.tuple #[.agg #[.bool false, .int .i64 0, .int .u64 r], .int .i64 0]) ∧ Gr w w')
    (cb : ∀ w', Below W.heap.size W w' → Calls Tryz.prog 98 #[.agg #[.pointer (some ⟨hb, 0, none⟩), vw, .slice (some ⟨vb, 0, none⟩) 1 1, vr], .agg #[.bool false, .int .i64 0, .int .u64 r]] w' R) (two : ∀ e w', R e w' → ∃ x y, e = .returned (.tuple #[.int .u64 x, .int .i64 y])) : Calls Tryz.prog 56 #[.agg #[.pointer (some ⟨hb, 0, none⟩), vw, .slice (some ⟨vb, 0, none⟩) 1 1, vr]] W R := by
  have hG : Gr W (W.alloc (.cells #[.pointer (some ⟨hb, 0, none⟩), vw, .slice (some ⟨vb, 0, none⟩) 1 1, vr] 103)) := (Gr.refl W).alloc _
  have e1 := World.cell?_alloc_new W #[.pointer (some ⟨hb, 0, none⟩), vw, .slice (some ⟨vb, 0, none⟩) 1 1, vr] 103
  have T := hid two
  clear two
  replace hv := hG.cells hv (Nat.zero_lt_succ _)
  go_enter Tryz.func56, Tryz.ntmps56
  go_upto_region 1 with fail
  generalize W.alloc (.cells #[.pointer (some ⟨hb, 0, none⟩), vw, .slice (some ⟨vb, 0, none⟩) 1 1, vr] 103) = W1 at *
  go_upto_region 2 with (go_at_call 128; (with_reducible refine (number_f 0 u 0 _ _).mono ?_); rintro e W2 ⟨rfl, hg⟩; (replace e1 := hg.cells e1 (Nat.zero_lt_succ _)); (replace hG := hG.trans hg); clear hg hv)
  obtain ⟨fN, zN, -⟩ := (Gr.refl (W2.alloc (.cells #[.bool false, .int .i64 0, .int .u64 u] 44))).one (Nat.zero_lt_succ _)
  have hbN : W.heap.size ≤ W2.heap.size := hG.below.size
  have hne : W.heap.size ≠ W2.heap.size := by have := cell_lt (e1 0); omega
  replace e1 := ((Gr.refl W2).alloc (.cells #[.bool false, .int .i64 0, .int .u64 u] 44)).cells e1 (Nat.zero_lt_succ _)
  replace hG := hG.alloc (.cells #[.bool false, .int .i64 0, .int .u64 u] 44)
  have HN := hid (And.intro hbN hne)
  clear hbN hne
  generalize W2.heap.size = bN at *
  generalize W2.alloc (.cells #[.bool false, .int .i64 0, .int .u64 u] 44) = W3 at *
  go_upto_region 5 with (go_at_call 129; (with_reducible refine (cg _).mono ?_); rintro e W4 ⟨rfl, hg⟩; (replace zN := hg.thaw fN (Nat.zero_lt_succ _) zN); (replace fN := hg.cells fN (Nat.zero_lt_succ _)); (replace e1 := hg.cells e1 (Nat.zero_lt_succ _)); (replace hG := hG.trans hg); clear hg cg)
  generalize hW : World.setCell _ _ _ = W5
  obtain ⟨fN', far, -, hG'⟩ := upd hW fN HN.out.1 hG
  replace e1 := far _ _ HN.out.2 e1
  have cx := cb _ hG'.below
  clear hW far fN hG zN cb hG'
  go_wp2_with (go_at_call 98; (with_reducible refine cx.mono ?_); intro e w3 h3; (obtain ⟨x, y, rfl⟩ := T.out e w3 h3); clear cx)
  exact h3
set_option maxRecDepth 100000 in
theorem fromPattern_m (b0 r0 : Int) (s0 : ByteArray) (hv : ∀ k, W.cell? ⟨vb, k, none⟩ = #[.int .i64 2, .int .i64 (-1), .int .u64 b0, .string s0, .int .u64 r0][k]?) : Calls Tryz.prog 68 #[.agg #[.pointer (some ⟨hb, 0, none⟩), vw, .slice (some ⟨vb, 0, none⟩) 1 1, vr]] W fun e w' => e = .returned (.tuple #[.int .u64 9221120237041090560, .int .i64 0]) ∧ Below W.heap.size W w' := by
  obtain ⟨h1, h2, cA, hE⟩ := pre1 (hb := hb) (vw := vw) (vr := vr) (-1) b0 r0 s0 hv
  have cF := fun w => fromFloat_c 18446744073709551615 (by decide) (by decide) w
  rw [show Go.Proofs.YthgcdohndchdkaaGreatDoor.W.fltW 18446744073709551615 = 9221120237041090560 from by decide, show (18446744073709551615 : Int) = IntKind.u64.wrap (-1) from by decide] at cF
  have H1 := hid h1
  have H2 := hid h2
  have HE := hid hE
  clear h1 h2 hE hv
  go_enter Tryz.func68, Tryz.ntmps68
  go_upto_region 1 with fail
  generalize W.alloc (.cells #[.pointer (some ⟨hb, 0, none⟩), vw, .slice (some ⟨vb, 0, none⟩) 1 1, vr] 103) = W1 at *
  obtain ⟨eC1, -⟩ := HE.out W1 (Below.refl _ _)
  go_upto_region 3 with (go_at_call 93; (with_reducible refine cA.mono ?_); rintro e W2 ⟨rfl, hB3⟩; clear cA)
  have hB4 := H2.out.trans (hB3.mono H2.out.size)
  obtain ⟨eC, eV⟩ := HE.out W2 hB4
  have HB := hid (H1.out.trans (hB4.mono H1.out.size))
  clear hB3 hB4 eC1
  go_wp2_with (go_at_call 24; (with_reducible refine (cF _).mono ?_); rintro e w' ⟨rfl, hw⟩; (have hw' := hw.symm); subst hw'; clear hw)
  go_ret2
  exact ⟨rfl, HB.out⟩
end
theorem un_neg (W : World) (hb x : Nat) (hx : Dbl x) : Calls Tryz.prog 10 #[.pointer (some ⟨hb, 0, none⟩), .string ⟨#[45]⟩, .int .u64 (x : Nat), .slice none 0 0] W fun e w' => ∃ r : Int, e = .returned (.tuple #[.int .u64 (Go.Proofs.YthgcdohndchdkaaGreatDoor.W.fltW r), .int .i64 0]) ∧ (0 ≤ r ∧ r < 18446744073709551616) ∧ Below W.heap.size W w' := by
  refine Unary_g W hb _ x _ eg_negative _ [] (words_nil' W) (by decide) 3 0 x 0 ⟨#[]⟩ hx.2 (unary_neg W) (fun w' h => unbox_d x hx hb w') (by rintro e w' ⟨r, rfl, _⟩; exact ⟨_, _, rfl⟩) (fun w' wb vb vr' h hw0 hv hw => ?_)
  have nr := negI_range (x : Int) (by omega) (by have := hx.2; omega)
  refine negative_f x (negI x) hv (fun w => ?_) (fun w2 h2 => ?_) (by rintro e w' ⟨r, rfl, _⟩; exact ⟨_, _, rfl⟩)
  · have := numNeg_c false 0 x (by decide) (by decide) (by omega) (by have := hx.2; omega) w
    rw [show negR false 0 x = okD (negI x) from rfl] at this
    exact this
  · refine boxNum_f 0 _ (fun w4 h4 => ?_) (by rintro e w' ⟨r, rfl, _⟩; exact ⟨_, _, rfl⟩)
    refine (box_float _ vr' (negI x) nr.1 nr.2 w4).mono ?_
    rintro e w5 ⟨rfl, h5⟩
    exact ⟨_, rfl, nr, h.trans ((h2.trans ((h4.trans (h5.mono h4.size)).mono h2.size)).mono h.size)⟩
theorem find_frombits (x5 x6 x7 x8 x9 : Nat) : findL (opsL x5 x6 x7 x8 x9) ⟨#[102, 114, 111, 109, 98, 105, 116, 115]⟩ = some (.agg #[.int .i64 1, .func (.func 68) #[] #[]]) := by kernel_rfl
theorem bin_frombits (W : World) (hb wb : Nat) (hw0 : W.cell? ⟨wb, 0, none⟩ = some (.int .u64 (18445055223849287679 : Nat))) : Calls Tryz.prog 11 #[.pointer (some ⟨hb, 0, none⟩), .string ⟨#[102, 114, 111, 109, 98, 105, 116, 115]⟩, .slice (some ⟨wb, 0, none⟩) 1 1, .slice none 0 0] W fun e w' => e = .returned (.tuple #[.int .u64 9221120237041090560, .int .i64 0]) ∧ Below W.heap.size W w' := by
  refine Builtin_1 W hb _ 18445055223849287679 wb _ eg_fromPattern _ [] (words_nil' W) (by decide) 2 (-1) 0 0 ⟨#[]⟩ (by decide) hw0 find_frombits (fun w' h => ?_) (by rintro e w' ⟨rfl, _⟩; exact ⟨_, _, rfl⟩) (fun w' vb vr' h hc hv hw => ?_)
  · have := unbox_sint (-1) (by decide) (.pointer (some ⟨hb, 0, none⟩)) w'
    rw [show intW (-1) = ((18445055223849287679 : Nat) : Int) from by decide] at this
    exact this
  · refine (fromPattern_m 0 0 _ hv).mono ?_
    rintro e w3 ⟨rfl, h3⟩
    exact ⟨rfl, h.trans (h3.mono h.size)⟩
end Go.Proofs.YthgcdohndchdkaaGreatDoor.W.Nu
