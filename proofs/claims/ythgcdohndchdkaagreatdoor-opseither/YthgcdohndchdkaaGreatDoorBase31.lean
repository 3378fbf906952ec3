import Derived.Test.YthgcdohndchdkaaGreatDoorBase30
import Derived.Test.YthgcdohndchdkaaGreatDoorBase0
/- Package ops, beside a heap that a statement made: operators on whole numbers. -/
namespace Go.Proofs.YthgcdohndchdkaaGreatDoor.W.Nu
open Go.ChangeShapes Go.WideShapes Go.RowKit Go.Shelf
set_option linter.unusedVariables false
theorem unbox_txt {W : World} {S : Nat → Prop} {hb : Nat} {H : List (Option Hc)} {u : Nat} (q : HSt W S hb H u) (w : Nat) (t : ByteArray) (h : IsTxt H w t) :
    Calls Tryz.prog 18 #[.pointer (some ⟨hb, 0, none⟩), .int .u64 w] W fun e w' => e = .returned (.tuple #[.agg #[.int .i64 4, .int .i64 0, .int .u64 0, .string t, .int .u64 0], .int .i64 0]) ∧ Below W.heap.size W w' := by
  rcases h with ⟨h1, h2⟩ | ⟨id, rfl, h2, h3⟩
  · rw [h2]; exact unbox_stext t h1 _ W
  · obtain ⟨sb, vc, T, l, _⟩ := q
    exact unbox_text l (hw id) (hw_lt id h2) (cls_hw id h2) id (hit_hw h2 h3) t h3
theorem eg_add : ∀ args w, (callFunc 95 args).run Tryz.prog w = .ok (.enter 95 args) w := enters_of Tryz.func95 (by kernel_rfl) rfl
section
variable {W0 W : World} {hb : Nat} {H : List (Option Hc)} {u : Nat} {K : Nat → Prop}
theorem IsInt.lt {w : Nat} {i : Int} (h : IsInt H w i) : w < 18446744073709551616 := by
  rcases h with ⟨h1, h2⟩ | ⟨id, rfl, h2, h3⟩
  · have := intW_bd i h1
    omega
  · exact hw_lt id h2
theorem bin_and (q : Hf W0 W hb H u K) (a b : Nat) (i j : Int) (hi : IsInt H a i) (hj : IsInt H b j) (vr : Value) (rs : List Nat) (hr : WordsAt W vr rs) (hl : rs.length ≤ 999000) (hf : sumH H + 2 ≤ u) (hH : H.length ≤ 1000000) :
    Calls Tryz.prog 9 #[.pointer (some ⟨hb, 0, none⟩), .string ⟨#[38]⟩, .int .u64 (a : Nat), .int .u64 (b : Nat), vr] W (BPost W0 W hb H u K (fun H' w => IsInt H' w (bits .and .i64 i j)) (nI (bits .and .i64 i j))) := by
  refine Binary_k W hb _ a b _ eg_joins1 _ vr rs hr hl 2 i 0 0 ⟨#[]⟩ 2 j 0 0 ⟨#[]⟩ (IsInt.lt hi) (IsInt.lt hj) (binary_and W) (fun w' h => unbox_int (q.below' h).2.choose_spec.1 a i hi) (fun w' h => unbox_int (q.below' h).2.choose_spec.1 b j hj) (fun e w' h => h.two) (fun w' cp wb vb vr' h hc hw0 hw1 hv hw => ?_)
  exact joins1_g cp _ eg_bit1 i j (bits .and .i64 i j) 0 0 0 0 _ _ hc hv (bit1_c i j) (fun w2 h2 => (boxI (q.below' (h.trans (h2.mono h.size))) vr' _ (words_below hw h2) _ (bits_lo_i64 _ _ _) (bits_hi_i64 _ _ _) hf hH).mono (fun e w3 h3 => h3.on (h.trans (h2.mono h.size)))) (fun e w' h => h.two)
theorem bin_or (q : Hf W0 W hb H u K) (a b : Nat) (i j : Int) (hi : IsInt H a i) (hj : IsInt H b j) (vr : Value) (rs : List Nat) (hr : WordsAt W vr rs) (hl : rs.length ≤ 999000) (hf : sumH H + 2 ≤ u) (hH : H.length ≤ 1000000) :
    Calls Tryz.prog 9 #[.pointer (some ⟨hb, 0, none⟩), .string ⟨#[124]⟩, .int .u64 (a : Nat), .int .u64 (b : Nat), vr] W (BPost W0 W hb H u K (fun H' w => IsInt H' w (bits .or .i64 i j)) (nI (bits .or .i64 i j))) := by
  refine Binary_k W hb _ a b _ eg_joins1 _ vr rs hr hl 2 i 0 0 ⟨#[]⟩ 2 j 0 0 ⟨#[]⟩ (IsInt.lt hi) (IsInt.lt hj) (binary_or W) (fun w' h => unbox_int (q.below' h).2.choose_spec.1 a i hi) (fun w' h => unbox_int (q.below' h).2.choose_spec.1 b j hj) (fun e w' h => h.two) (fun w' cp wb vb vr' h hc hw0 hw1 hv hw => ?_)
  exact joins1_g cp _ eg_bit2 i j (bits .or .i64 i j) 0 0 0 0 _ _ hc hv (bit2_c i j) (fun w2 h2 => (boxI (q.below' (h.trans (h2.mono h.size))) vr' _ (words_below hw h2) _ (bits_lo_i64 _ _ _) (bits_hi_i64 _ _ _) hf hH).mono (fun e w3 h3 => h3.on (h.trans (h2.mono h.size)))) (fun e w' h => h.two)
theorem bin_xor (q : Hf W0 W hb H u K) (a b : Nat) (i j : Int) (hi : IsInt H a i) (hj : IsInt H b j) (vr : Value) (rs : List Nat) (hr : WordsAt W vr rs) (hl : rs.length ≤ 999000) (hf : sumH H + 2 ≤ u) (hH : H.length ≤ 1000000) :
    Calls Tryz.prog 9 #[.pointer (some ⟨hb, 0, none⟩), .string ⟨#[94]⟩, .int .u64 (a : Nat), .int .u64 (b : Nat), vr] W (BPost W0 W hb H u K (fun H' w => IsInt H' w (bits .xor .i64 i j)) (nI (bits .xor .i64 i j))) := by
  refine Binary_k W hb _ a b _ eg_joins1 _ vr rs hr hl 2 i 0 0 ⟨#[]⟩ 2 j 0 0 ⟨#[]⟩ (IsInt.lt hi) (IsInt.lt hj) (binary_xor W) (fun w' h => unbox_int (q.below' h).2.choose_spec.1 a i hi) (fun w' h => unbox_int (q.below' h).2.choose_spec.1 b j hj) (fun e w' h => h.two) (fun w' cp wb vb vr' h hc hw0 hw1 hv hw => ?_)
  exact joins1_g cp _ eg_bit3 i j (bits .xor .i64 i j) 0 0 0 0 _ _ hc hv (bit3_c i j) (fun w2 h2 => (boxI (q.below' (h.trans (h2.mono h.size))) vr' _ (words_below hw h2) _ (bits_lo_i64 _ _ _) (bits_hi_i64 _ _ _) hf hH).mono (fun e w3 h3 => h3.on (h.trans (h2.mono h.size)))) (fun e w' h => h.two)
theorem un_turned (q : Hf W0 W hb H u K) (a : Nat) (i : Int) (hi : IsInt H a i) (vr : Value) (rs : List Nat) (hr : WordsAt W vr rs) (hl : rs.length ≤ 999000) (hf : sumH H + 2 ≤ u) (hH : H.length ≤ 1000000) :
    Calls Tryz.prog 10 #[.pointer (some ⟨hb, 0, none⟩), .string ⟨#[126]⟩, .int .u64 (a : Nat), vr] W (BPost W0 W hb H u K (fun H' w => IsInt H' w (bits .xor .i64 (-1) i)) (nI (bits .xor .i64 (-1) i))) := by
  refine Unary_g W hb _ a _ eg_turned vr rs hr hl 2 i 0 0 ⟨#[]⟩ (IsInt.lt hi) (unary_turned W) (fun w' h => unbox_int (q.below' h).2.choose_spec.1 a i hi) (fun e w' h => h.two) (fun w' wb vb vr' h hw0 hv hw => ?_)
  exact turned_g i 0 0 _ hv (fun w2 h2 => (boxI (q.below' (h.trans (h2.mono h.size))) vr' _ (words_below hw h2) _ (bits_lo_i64 _ _ _) (bits_hi_i64 _ _ _) hf hH).mono (fun e w3 h3 => h3.on (h.trans (h2.mono h.size)))) (fun e w' h => h.two)
/-- a sum of whole numbers -/
theorem bin_add (q : Hf W0 W hb H u K) (a b : Nat) (i j : Int) (hi : IsInt H a i) (hj : IsInt H b j) (i0 : -9223372036854775808 ≤ i) (i1 : i < 9223372036854775808) (j0 : -9223372036854775808 ≤ j) (j1 : j < 9223372036854775808) (hs : -9223372036854775808 ≤ i + j ∧ i + j < 9223372036854775808) (vr : Value) (rs : List Nat) (hr : WordsAt W vr rs) (hl : rs.length ≤ 999000) (hf : sumH H + 2 ≤ u) (hH : H.length ≤ 1000000) :
    Calls Tryz.prog 9 #[.pointer (some ⟨hb, 0, none⟩), .string ⟨#[43]⟩, .int .u64 (a : Nat), .int .u64 (b : Nat), vr] W (BPost W0 W hb H u K (fun H' w => IsInt H' w (i + j)) (nI (i + j))) := by
  refine Binary_g W hb _ a b _ eg_plus vr rs hr hl 2 i 0 0 ⟨#[]⟩ 2 j 0 0 ⟨#[]⟩ (IsInt.lt hi) (IsInt.lt hj) (binary_plus W) (fun w' h => unbox_int (q.below' h).2.choose_spec.1 a i hi) (fun w' h => unbox_int (q.below' h).2.choose_spec.1 b j hj) (fun e w' h => h.two) (fun w' wb vb vr' h hw0 hw1 hv hw => ?_)
  have vl : vb < w'.heap.size := cell_lt (hv 0)
  refine plus_g 2 i 0 0 2 j 0 0 _ _ (by decide) hv (fun w2 cp h2 hc => ?_) (fun e w' h => h.two)
  have cg : ∀ w, Calls Tryz.prog 95 #[.agg #[.bool true, .int .i64 i, .int .u64 0], .agg #[.bool true, .int .i64 j, .int .u64 0]] w fun e w' => e = .returned (.tuple #[.agg #[.bool true, .int .i64 (i + j), .int .u64 0], .int .i64 0]) ∧ Gr w w' := by
    intro w
    have := numAdd_c true true i 0 j 0 i0 i1 j0 j1 w
    unfold addR at this
    rw [if_pos ⟨rfl, rfl⟩, fitR_in hs] at this
    exact this
  refine reckons1_g cp _ eg_add hc true true true i 0 j 0 (i + j) 0 (fun w3 h3 => ?_) cg (fun w3 h3 => ?_) (fun e w' h => h.two)
  · have h23 := h2.trans (h3.mono h2.size)
    exact numbers_tt w3 hb vb 2 _ _ (by decide) (by decide) 2 i 0 0 2 j 0 0 _ _ (fun k => by rw [h23.cell (p := ⟨vb, k, none⟩) vl]; exact hv k) true true i 0 j 0 (number_i i 0 0 _) (number_i j 0 0 _)
  · refine boxNum_i (i + j) 0 (fun w4 h4 => ?_) (fun e w' h => h.two)
    have h24 := h2.trans ((h3.trans (h4.mono h3.size)).mono h2.size)
    exact (boxI (q.below' (h.trans (h24.mono h.size))) vr' _ (words_below hw h24) _ hs.1 (by omega) hf hH).mono (fun e w5 h5 => h5.on (h.trans (h24.mono h.size)))
end
end Go.Proofs.YthgcdohndchdkaaGreatDoor.W.Nu
/- Package ops: built-in functions of one argument; Told of a string; Arity; casketlaw10's awake. -/
namespace Go.Proofs.YthgcdohndchdkaaGreatDoor.W.Nu
open Go.ChangeShapes Go.WideShapes Go.RowKit Go.Shelf
set_option linter.unusedVariables false
set_option maxRecDepth 100000 in
theorem Builtin_1 (W : World) (hb : Nat) (name : ByteArray) (a wb : Nat) (kf : Nat) (eg : ∀ args w, (callFunc kf args).run Tryz.prog w = .ok (.enter kf args) w) (vr : Value) (rs : List Nat) (hr : WordsAt W vr rs) (hl : rs.length ≤ 999000) (k0 i0 b0 r0 : Int) (s0 : ByteArray) (lt0 : a < 18446744073709551616) (hw0 : W.cell? ⟨wb, 0, none⟩ = some (.int .u64 (a : Nat)))
    (hfind : ∀ x5 x6 x7 x8 x9, findL (opsL x5 x6 x7 x8 x9) name = some (.agg #[.int .i64 1, .func (.func kf) #[] #[]]))
    (cu0 : ∀ w', Below W.heap.size W w' → Calls Tryz.prog 18 #[.pointer (some ⟨hb, 0, none⟩), .int .u64 (a : Nat)] w' fun e w'' => e = .returned (.tuple #[.agg #[.int .i64 k0, .int .i64 i0, .int .u64 b0, .string s0, .int .u64 r0], .int .i64 0]) ∧ Below w'.heap.size w' w'')
    {R : Ending → World → Prop} (two : ∀ e w', R e w' → ∃ x y, e = .returned (.tuple #[.int .u64 x, .int .i64 y]))
    (cj : ∀ (w' : World) (vb : Nat) (vr' : Value), Below W.heap.size W w' → w'.cell? ⟨wb, 0, none⟩ = some (.int .u64 (a : Nat)) → (∀ j, w'.cell? ⟨vb, j, none⟩ = #[.int .i64 k0, .int .i64 i0, .int .u64 b0, .string s0, .int .u64 r0][j]?) → WordsAt w' vr' (rs ++ [a]) → Calls Tryz.prog kf #[.agg #[.pointer (some ⟨hb, 0, none⟩), .slice (some ⟨wb, 0, none⟩) 1 1, .slice (some ⟨vb, 0, none⟩) 1 1, vr']] w' R) :
    Calls Tryz.prog 11 #[.pointer (some ⟨hb, 0, none⟩), .string name, .slice (some ⟨wb, 0, none⟩) 1 1, vr] W R := by
  obtain ⟨o1, cap1, hvr, -⟩ := id hr
  subst hvr
  have cd : ∀ (W1 : World), Below W.heap.size W W1 → Calls Tryz.prog 28 #[.pointer (some ⟨hb, 0, none⟩), .func (.func kf) #[] #[], .slice (some ⟨wb, 0, none⟩) 1 1, .slice o1 rs.length cap1] (W1.alloc (.cells #[.int .i64 1, .func (.func kf) #[] #[]] 70)) R := by
    intro W1 hB
    have hB1 : Below W1.heap.size W1 (W1.alloc (.cells #[.int .i64 1, .func (.func kf) #[] #[]] 70)) := (Below.refl _ W1).alloc (Nat.le_refl _) _
    have hB2 := hB.trans (hB1.mono hB.size)
    exact done1_g _ hb wb a kf eg _ rs (words_below hr hB2) hl k0 i0 b0 r0 s0 (cell_keep hB2 hw0) lt0 (fun w' h => cu0 w' (hB2.trans (h.mono hB2.size))) two (fun w' vb vr' h hv hw => cj w' vb vr' (hB2.trans (h.mono hB2.size)) (cell_keep h (cell_keep hB2 hw0)) hv hw)
  have T := hid two
  have F := hid hfind
  clear two cj hr cu0 eg hl lt0 hw0 hfind
  go_enter Tryz.func11, Tryz.ntmps11
  go_wp2_with (first | (go_at_call 30; (with_reducible refine (builtins_c _).mono ?_); rintro e W1 ⟨b, x5, x6, x7, x8, x9, rfl, HL, hB⟩; (have hlk := run_lookup_l underBM underBS HL name _ (F.out x5 x6 x7 x8 x9)); (replace cd := cd _ hB); clear HL hB) | (go_at_call 28; (with_reducible refine cd.mono ?_); intro e w3 h3; (obtain ⟨x, y, rfl⟩ := T.out e w3 h3); clear cd))
  exact h3
theorem find_chr (x5 x6 x7 x8 x9 : Nat) : findL (opsL x5 x6 x7 x8 x9) ⟨#[99, 104, 114]⟩ = some (.agg #[.int .i64 1, .func (.func 66) #[] #[]]) := by kernel_rfl
theorem find_view (x5 x6 x7 x8 x9 : Nat) : findL (opsL x5 x6 x7 x8 x9) ⟨#[118, 105, 101, 119]⟩ = some (.agg #[.int .i64 4, .func (.func 70) #[] #[]]) := by kernel_rfl
theorem arity_view (W : World) : Calls Tryz.prog 33 #[.string ⟨#[118, 105, 101, 119]⟩] W fun e w' => e = .returned (.tuple #[.int .i64 4, .bool true]) ∧ Below W.heap.size W w' := by
  go_enter Tryz.func33, Tryz.ntmps33
  go_wp2_with (go_at_call 30; (with_reducible refine (builtins_c _).mono ?_); rintro e W1 ⟨b, x5, x6, x7, x8, x9, rfl, HL, hB⟩; (have hlk := run_lookup_l underBM underBS HL _ _ (find_view x5 x6 x7 x8 x9)); clear HL)
  go_ret2
  exact ⟨rfl, hB.alloc hB.size _⟩
set_option maxRecDepth 100000 in
theorem told_txt (t : ByteArray) (W : World) : Calls Tryz.prog 74 #[.agg #[.int .i64 4, .int .i64 0, .int .u64 0, .string t, .int .u64 0]] W fun e w' => e = .returned (.tuple #[.string t, .int .i64 0]) ∧ Below W.heap.size W w' := by
  go_enter Tryz.func74, Tryz.ntmps74
  go_wp2
  go_ret2
  exact ⟨rfl, (Below.refl _ W).alloc (Nat.le_refl _) _⟩
theorem Told_txt (W : World) (hb a : Nat) (t : ByteArray) (cu : Calls Tryz.prog 18 #[.pointer (some ⟨hb, 0, none⟩), .int .u64 (a : Nat)] W fun e w'' => e = .returned (.tuple #[.agg #[.int .i64 4, .int .i64 0, .int .u64 0, .string t, .int .u64 0], .int .i64 0]) ∧ Below W.heap.size W w'') :
    Calls Tryz.prog 32 #[.pointer (some ⟨hb, 0, none⟩), .int .u64 (a : Nat)] W fun e w' => e = .returned (.tuple #[.string t, .int .i64 0]) ∧ Below W.heap.size W w' := by
  go_enter Tryz.func32, Tryz.ntmps32
  go_wp2_with (first | (go_at_call 18; (with_reducible refine cu.mono ?_); rintro e W1 ⟨rfl, hB⟩; (replace hB := hid hB); clear cu) | (go_at_call 74; (with_reducible refine (told_txt _ _).mono ?_); rintro e W2 ⟨rfl, hB2⟩))
  go_ret2
  have h1 := hB.out.alloc hB.out.size (.cells #[.int .i64 4, .int .i64 0, .int .u64 0, .string t, .int .u64 0] 30)
  exact ⟨rfl, h1.trans (hB2.mono h1.size)⟩
section
variable {W0 W : World} {hb : Nat} {H : List (Option Hc)} {u : Nat} {K : Nat → Prop}
theorem num_sum {id : Nat} {i : Int} (h : H[id]? = some (some (.num i))) : 2 ≤ sumH H := by
  obtain ⟨hl, he⟩ := List.getElem?_eq_some_iff.1 h
  have := sumH_set H id none hl
  rw [he] at this
  have e1 : needO (some (Hc.num i)) = 2 := num_need i
  have e2 : needO none = 0 := rfl
  omega
theorem small_word {w : Nat} {i : Int} (h : IsInt H w i) (hs : sumH H < 2) : (w : Int) = intW i := by
  rcases h with ⟨_, h2⟩ | ⟨id, rfl, h2, h3⟩
  · exact h2
  · have := num_sum h3; omega
theorem bin_chr65 (q : Hf W0 W hb H u K) (wb : Nat) (hw0 : W.cell? ⟨wb, 0, none⟩ = some (.int .u64 (18444773748872577089 : Nat))) (vr : Value) (rs : List Nat) (hr : WordsAt W vr rs) (hl : rs.length ≤ 999000) (hf : sumH H + 2 ≤ u) (hH : H.length ≤ 1000000) :
    Calls Tryz.prog 11 #[.pointer (some ⟨hb, 0, none⟩), .string ⟨#[99, 104, 114]⟩, .slice (some ⟨wb, 0, none⟩) 1 1, vr] W (BPost W0 W hb H u K (fun H' w => IsTxt H' w ⟨#[65]⟩) (nT ⟨#[65]⟩)) := by
  have tA : tneed ⟨#[65]⟩ = 2 := by decide
  have hi : IsInt H 18444773748872577089 65 := .inl ⟨by decide, by decide⟩
  refine Builtin_1 W hb _ 18444773748872577089 wb _ eg_character vr rs hr hl 2 65 0 0 ⟨#[]⟩ (by decide) hw0 find_chr (fun w' h => unbox_int (q.below' h).2.choose_spec.1 _ 65 hi) (fun e w' h => h.two) (fun w' vb vr' h hc hv hw => ?_)
  exact character65 0 0 _ hv (fun w2 h2 => (boxS (q.below' (h.trans (h2.mono h.size))) vr' _ (words_below hw h2) ⟨#[65]⟩ (by decide) (by rw [tA]; exact hf) hH).mono (fun e w3 h3 => h3.on (h.trans (h2.mono h.size)))) (fun e w' h => h.two)
end
set_option maxRecDepth 100000 in
set_option maxHeartbeats 1000000 in
theorem awake10_c (W : World) : Calls Tryz.prog 13 #[] W fun e w' => e = .returned (.bool true) ∧ Below W.heap.size W w' := by
  have cn := hf_new (Below.refl W.heap.size W) 9 (by decide)
  rw [show ((9 : Nat) : Int) = 9 from rfl] at cn
  go_enter Tryz.func13, Tryz.ntmps13
  go_upto_region 4 with (go_at_call 7; (with_reducible refine cn.mono ?_); rintro e W1 ⟨hb, rfl, q1, hB1⟩; clear cn)
  have c1 := bin_add q1 18444773748872577025 18444773748872577026 1 2 (.inl ⟨by decide, by decide⟩) (.inl ⟨by decide, by decide⟩) (by decide) (by decide) (by decide) (by decide) (by decide) (.slice none 0 0) [] (words_nil' W1) (by decide) (by decide) (by decide)
  rw [show ((18444773748872577025 : Nat) : Int) = 18444773748872577025 from rfl, show ((18444773748872577026 : Nat) : Int) = 18444773748872577026 from rfl] at c1
  have e3 : nI (1 + 2) = 0 := by decide
  go_upto_region 5 with (go_at_call 9; (with_reducible refine c1.mono ?_); rintro e W2 ⟨w, H2, rfl, q2, hE2, hI2, hs2, hl2, hA2, hlt2, hU2⟩; clear c1; (have hw2 := small_word hI2 (by rw [hs2, e3]; decide)); (rw [show intW (1 + 2) = 18444773748872577027 from by decide] at hw2); (rw [hw2]))
  have hB2a : Below W2.heap.size W2 (W2.alloc (.cells #[.int .u64 18444773748872577089] 22)) := (Below.refl _ W2).alloc (Nat.le_refl _) _
  have c2 := bin_chr65 (q2.below' hB2a) W2.heap.size (World.cell?_alloc_new W2 #[.int .u64 18444773748872577089] 22 0) (.slice none 0 0) [] (words_nil' _) (by decide) (by rw [hs2, e3]; decide) (by simp only [List.length_nil] at hl2; omega)
  clear q1 hE2 hI2 hA2 hlt2 hU2 hw2 hB1 q2 hB2a hl2 hs2
  go_upto_region 6 with (go_at_call 11; (with_reducible refine c2.mono ?_); rintro e W3 ⟨w3, H3, rfl, q3, hE3, hI3, hs3, hl3, hA3, hlt3, hU3⟩; clear c2)
  have c3 := Told_txt W3 hb w3 _ (unbox_txt q3.2.choose_spec.1 w3 _ hI3)
  have HB := hid q3.bel
  clear q3 hE3 hI3 hs3 hl3 hA3 hlt3 hU3
  go_wp2_with (first | (go_at_call 32; (with_reducible refine c3.mono ?_); rintro e W4 ⟨rfl, hB4⟩; clear c3) | (go_at_call 33; (with_reducible refine (arity_view _).mono ?_); rintro e W5 ⟨rfl, hB5⟩))
  go_ret
  exact ⟨rfl, HB.out.trans ((hB4.trans (hB5.mono hB4.size)).mono HB.out.size)⟩
end Go.Proofs.YthgcdohndchdkaaGreatDoor.W.Nu
/- casketlaw10's box; a row of whole numbers of one's own beside a heap. -/
namespace Go.Proofs.YthgcdohndchdkaaGreatDoor.W.Nu
open Go.ChangeShapes Go.WideShapes Go.RowKit Go.Shelf
set_option linter.unusedVariables false
/-- behind casketlaw10's box -/
def LB (W0 W1 : World) (hb : Nat) (H : List (Option Hc)) (u : Nat) (K : Nat → Prop) (V : List (Option Hc) → Nat → Prop) (n : Nat) (e : Ending) (w' : World) : Prop := ∃ (w : Nat) (H' : List (Option Hc)), e = .returned (.tuple #[.int .u64 (w : Nat), .bool true]) ∧ Hf W0 w' hb H' u K ∧ Ext H H' ∧ V H' w ∧ sumH H' = sumH H + n ∧ H'.length ≤ H.length + 1 ∧ (∀ ws, AllR H ws → AllR H' (ws ++ [w])) ∧ w < 18446744073709551616 ∧ Upd (Ch W0 K) W1 w'
section
variable {W0 W : World} {hb : Nat} {H : List (Option Hc)} {u : Nat} {K : Nat → Prop}
theorem cell_upd {W' : World} {n i : Nat} {v : Value} (hU : Upd (Ch W0 K) W W') (hk : K n) (h : W.cell? ⟨n, i, none⟩ = some v) : W'.cell? ⟨n, i, none⟩ = some v := by
  have hl := cell_lt h
  rw [← h]
  exact World.cell?_of_block (hU.block n hl (fun c => c.1 hk))
set_option maxRecDepth 100000 in
theorem lbox_i (q : Hf W0 W hb H u K) (vr : Value) (rs : List Nat) (hr : WordsAt W vr rs) (i : Int) (h0 : -9223372036854775808 ≤ i) (h1 : i ≤ 9223372036854775807) (hf : sumH H + 2 ≤ u) (hH : H.length ≤ 1000000) :
    Calls Tryz.prog 16 #[.pointer (some ⟨hb, 0, none⟩), .agg #[.bool true, .int .i64 i, .int .u64 0], vr] W (LB W0 W hb H u K (fun H' w => IsInt H' w i) (nI i)) := by
  have hB : Below W.heap.size W ((W.alloc (.cells #[.bool true, .int .i64 i, .int .u64 0] 44)).alloc (.cells #[.int .i64 2, .int .i64 i, .int .u64 0, .string ⟨#[]⟩, .int .u64 0] 30)) := ((Below.refl _ W).alloc (Nat.le_refl _) _).alloc (by rw [World.size_alloc]; omega) _
  have cx := (boxI (q.below' hB) vr rs (words_below hr hB) i h0 h1 hf hH).mono (fun e w' h => BPost.on hB h)
  obtain ⟨o1, cap1, hvr, -⟩ := id hr
  subst hvr
  clear q hr h0 h1 hf hH hB
  go_enter Tryz.func16, Tryz.ntmps16
  go_wp2_with (go_at_call 8; (with_reducible refine cx.mono ?_); rintro e w3 ⟨w, H', rfl, h3⟩; clear cx)
  go_ret2
  exact ⟨w, H', rfl, h3⟩
theorem wf_i64' {i : Int} (h : (Lit.int .i64 i).wf = true) : -9223372036854775808 ≤ i ∧ i ≤ 9223372036854775807 := by
  simp [Lit.wf] at h
  have e1 : IntKind.i64.min = -9223372036854775808 := by decide
  have e2 : IntKind.i64.max = 9223372036854775807 := by decide
  omega
theorem wf_u64' {i : Int} (h : (Lit.int .u64 i).wf = true) : 0 ≤ i ∧ i < 18446744073709551616 := by
  simp [Lit.wf] at h
  have e1 : IntKind.u64.min = 0 := by decide
  have e2 : IntKind.u64.max = 18446744073709551615 := by decide
  omega
theorem infoL : (Tryz.prog.info? 2).map (fun i => (i.zero, i.size, i.bytes)) = some (some (.int .i64 0), 1, 8) := by kernel_rfl
theorem underL : Tryz.prog.underlying 50 = some (.slice 2) := by kernel_rfl
def ints (l : List Int) : List Value := l.map (Value.int .i64)
/-- a row of whole numbers of one's own, behind block B -/
structure MineI (B : Nat) (W : World) (K : Nat → Prop) (v : Value) (l : List Int) : Prop where
  row : W.ownsRow B 2 1 v l.length (ints l)
  keep : ∀ k, v.ownBlock = some k → K k
  len : l.length ≤ 900000
theorem MineI.upd {B : Nat} {W' : World} {v : Value} {l : List Int} (o : MineI B W K v l) (hU : Upd (Ch W0 K) W W') : MineI B W' K v l :=
  ⟨owns_on o.row (fun k e => hU.block k (o.row.lt k e).2 (fun h => h.1 (o.keep k e))), o.keep, o.len⟩
theorem MineI.below {B : Nat} {W' : World} {v : Value} {l : List Int} (o : MineI B W K v l) (hB : Below W.heap.size W W') : MineI B W' K v l :=
  ⟨owns_on o.row (fun k e => hB.block k (o.row.lt k e).2), o.keep, o.len⟩
theorem mineI_nil (B : Nat) (W : World) (K : Nat → Prop) : MineI B W K (.slice none 0 0) [] := ⟨World.ownsRow_nil _ _ _ _, fun k e => (by cases e), by decide⟩
theorem mineI_append (q : Hf W0 W hb H u K) (B : Nat) (b0 : W0.heap.size ≤ B) (b1 : B ≤ W.heap.size) (ty : TypeId) (v : Value) (l : List Int) (o : MineI B W K v l) (x : Int) (hl : l.length < 900000) :
    ∃ v' w', (Builtin.append_ #[50, 50] ty #[v, .slice (some ⟨W.heap.size, 0, none⟩) 1 1]).run Tryz.prog (W.alloc (.cells #[.int .i64 x] 2)) = .ok v' w' ∧ Hf W0 w' hb H u (fun k => K k ∨ (W.heap.size ≤ k ∧ k < w'.heap.size)) ∧ MineI B w' (fun k => K k ∨ (W.heap.size ≤ k ∧ k < w'.heap.size)) v' (l ++ [x]) ∧ Upd (fun k => v.ownBlock = some k) W w' := by
  obtain ⟨i0, hi, hz0, hz1, hz2⟩ := info_parts infoL
  have hB1 : Below W.heap.size W (W.alloc (.cells #[.int .i64 x] 2)) := (Below.refl _ W).alloc (Nat.le_refl _) _
  have z1 : (W.alloc (.cells #[.int .i64 x] 2)).heap.size = W.heap.size + 1 := World.size_alloc ..
  have e0 := World.cell?_alloc_new W #[.int .i64 x] 2
  have ho := o.row.alloc (.cells #[.int .i64 x] 2)
  obtain ⟨v', w', hrun, ho', hg, hk⟩ := append_at (P := Tryz.prog) (W.alloc (.cells #[.int .i64 x] 2)) 50 ty 2 i0 (.int .i64 0) 1 8 underL hi hz0 hz1 hz2 rfl (by omega) v l.length (ints l) (owns_base ho (fun _ _ => Nat.zero_le _)) ⟨W.heap.size, 0, none⟩ 1 1 [.int .i64 x] (by simp) (by
    intro j y hj
    have hj0 : j = 0 := by have := (List.getElem?_eq_some_iff.1 hj).1; simp at this; exact this
    subst hj0
    simp at hj
    subst hj
    have e1 : ((⟨W.heap.size, 0, none⟩ : Addr).add 0) = ⟨W.heap.size, 0, none⟩ := by unfold Addr.add; split <;> simp_all
    rw [e1, e0 0]; rfl) (by intro y hy; simp at hy; rw [hy]; rfl) (by omega) (by omega) (by omega)
  have hlo : ∀ k, v.ownBlock = some k → B ≤ k ∧ k < W.heap.size := fun k e => o.row.lt k e
  have q0 := q.1.size
  have hU1 : Upd (fun k => v.ownBlock = some k) (W.alloc (.cells #[.int .i64 x] 2)) w' := (Upd.refl _ _).grown hg (fun k e => .inl e)
  have hU : Upd (fun k => v.ownBlock = some k) W w' := (Upd.of_below hB1).trans' hU1
  refine ⟨v', w', hrun, q.upd' hU (fun k e => ⟨o.keep k e, by have := (hlo k e).1; omega⟩), ⟨?_, ?_, by simp; omega⟩, hU⟩
  · have := owns_base ho' (b' := B) (fun g e => by rcases hk g e with e | e
                                                   · exact (hlo g e).1
                                                   · omega)
    unfold ints at *
    rw [List.length_append, List.map_append]
    exact this
  · intro k e
    rcases hk k e with e | e
    · exact .inl (o.keep k e)
    · exact .inr ⟨by omega, e.2⟩
theorem hf_aside (q : Hf W0 W hb H u K) (o : Obj) : ∃ K' : Nat → Prop, Hf W0 (W.alloc o) hb H u K' ∧ K' W.heap.size ∧ (∀ k, K k → K' k) :=
  ⟨_, q.below ((Below.refl _ W).alloc (Nat.le_refl _) o), .inr ⟨Nat.le_refl _, by rw [World.size_alloc]; omega⟩, fun k h => .inl h⟩
theorem mineI_app (q : Hf W0 W hb H u K) (B : Nat) (b0 : W0.heap.size ≤ B) (b1 : B ≤ W.heap.size) (ty : TypeId) (v : Value) (l : List Int) (o : MineI B W K v l) (x : Int) (hl : l.length < 900000) :
    ∃ (v' : Value) (w' : World) (K' : Nat → Prop), (Builtin.append_ #[50, 50] ty #[v, .slice (some ⟨W.heap.size, 0, none⟩) 1 1]).run Tryz.prog (W.alloc (.cells #[.int .i64 x] 2)) = .ok v' w' ∧ (∀ k, K k → K' k) ∧ Hf W0 w' hb H u K' ∧ MineI B w' K' v' (l ++ [x]) ∧ (∀ (n i : Nat) (y : Value), n < B → W.cell? ⟨n, i, none⟩ = some y → w'.cell? ⟨n, i, none⟩ = some y) ∧ W.heap.size ≤ w'.heap.size := by
  obtain ⟨v', w', h1, h2, h3, h4⟩ := mineI_append q B b0 b1 ty v l o x hl
  refine ⟨v', w', _, h1, fun k h => .inl h, h2, h3, fun n i y hn hy => ?_, h4.size⟩
  rw [← hy]
  exact World.cell?_of_block (h4.block n (cell_lt hy) (fun e => by have := (o.row.lt n e).1; omega))
end
end Go.Proofs.YthgcdohndchdkaaGreatDoor.W.Nu
/- Plain facts on words of IEEE 754: a number is written as its nearest word whatever its spelling; what a format has is written as it was read; words compare by the exact numbers that they are. -/
namespace Go.Proofs.YthgcdohndchdkaaGreatDoor.W.Nu
open Ieee

/-- a quotient rounded to the nearest whole number, between two the even one -/
def cutE (n g : Nat) : Nat := n / g + (if g < 2 * (n % g) ∨ (g = 2 * (n % g) ∧ n / g % 2 = 1) then 1 else 0)

theorem gap_low (n d : Nat) (h : n.log2 + 2 < d) : n < 2 ^ (n.log2 + 2) ∧ 2 * n < 2 ^ (n.log2 + 2) ∧ 2 ^ (n.log2 + 2) < 2 ^ d := by
  have h1 : n < 2 ^ (n.log2 + 1) := Nat.lt_log2_self
  have h2 : 2 ^ (n.log2 + 2) = 2 * 2 ^ (n.log2 + 1) := by rw [show n.log2 + 2 = n.log2 + 1 + 1 from rfl, Nat.pow_succ]; omega
  have h3 : 2 ^ (n.log2 + 2) < 2 ^ d := Nat.pow_lt_pow_right (by omega) h
  omega

theorem toNat_if {b : Bool} {p : Prop} [Decidable p] (h : b = true ↔ p) : b.toNat = if p then 1 else 0 := by
  cases b <;> by_cases hp : p <;> simp_all
theorem cut_even (s : Bool) (n d : Nat) : Toward.even.cut s n d = cutE n (2 ^ d) := by
  unfold Toward.cut cutE
  simp only [Nat.one_shiftLeft]
  by_cases h : d ≤ n.log2 + 2
  · rw [Nat.min_eq_left h]
    congr 1
    generalize 2 ^ d = g
    exact toNat_if (by simp)
  · rw [Nat.min_eq_right (by omega)]
    obtain ⟨h1, h2, h3⟩ := gap_low n d (by omega)
    have h4 : n < 2 ^ d := by omega
    rw [Nat.div_eq_of_lt h1, Nat.mod_eq_of_lt h1, Nat.div_eq_of_lt h4, Nat.mod_eq_of_lt h4, if_neg (by omega)]
    have e : decide (2 ^ (n.log2 + 2) < 2 * n) = false := by simp; omega
    simp [e]
theorem cut_zero (s : Bool) (n d : Nat) : Toward.zero.cut s n d = n / 2 ^ d := by
  unfold Toward.cut
  simp only [Nat.one_shiftLeft]
  by_cases h : d ≤ n.log2 + 2
  · rw [Nat.min_eq_left h]; simp
  · rw [Nat.min_eq_right (by omega)]
    obtain ⟨h1, h2, h3⟩ := gap_low n d (by omega)
    rw [Nat.div_eq_of_lt h1, Nat.div_eq_of_lt (by omega)]
    simp

theorem cutE_mul (n g c : Nat) (hc : 0 < c) : cutE (n * c) (g * c) = cutE n g := by
  unfold cutE
  rw [Nat.mul_div_mul_right n g hc, Nat.mul_mod_mul_right]
  congr 1
  have e : 2 * (n % g * c) = 2 * (n % g) * c := by rw [Nat.mul_assoc]
  rw [e]
  have h1 : (g * c < 2 * (n % g) * c) = (g < 2 * (n % g)) := propext (Nat.mul_lt_mul_right hc)
  have h2 : (g * c = 2 * (n % g) * c) = (g = 2 * (n % g)) := propext (Nat.mul_left_inj (by omega))
  simp only [h1, h2]
theorem cutE_one (n : Nat) : cutE n 1 = n := by
  unfold cutE
  simp [Nat.mod_one]
theorem cutE_move (m a b a' b' : Nat) (h : a' + b = a + b') : cutE (m * 2 ^ a') (2 ^ b') = cutE (m * 2 ^ a) (2 ^ b) := by
  rw [← cutE_mul (m * 2 ^ a') (2 ^ b') (2 ^ b) (Nat.two_pow_pos _), ← cutE_mul (m * 2 ^ a) (2 ^ b) (2 ^ b') (Nat.two_pow_pos _)]
  rw [Nat.mul_assoc, Nat.mul_assoc, ← Nat.pow_add, ← Nat.pow_add, ← Nat.pow_add, ← Nat.pow_add, h, Nat.add_comm b' b]

theorem log2_shift (m k : Nat) (h : m ≠ 0) : (m * 2 ^ k).log2 = m.log2 + k := by
  induction k with
  | zero => simp
  | succ k ih =>
    rw [Nat.pow_succ, ← Nat.mul_assoc, Nat.mul_comm _ 2, Nat.log2_two_mul (Nat.mul_ne_zero h (Nat.ne_of_gt (Nat.two_pow_pos k))), ih]
    omega

theorem nearest_shift (f : Format) (s : Bool) (m k : Nat) (p : Int) : f.nearest s (m * 2 ^ k) (p - k) = f.nearest s m p := by
  unfold Format.nearest
  by_cases h : m = 0
  · subst h; simp
  · have h' : m * 2 ^ k ≠ 0 := Nat.mul_ne_zero h (Nat.ne_of_gt (Nat.two_pow_pos k))
    rw [if_neg h', if_neg h, log2_shift m k h]
    have e : p - (k : Int) + ((m.log2 + k : Nat) : Int) - f.fractionBits = p + (m.log2 : Nat) - f.fractionBits := by omega
    simp only [e]
    generalize max (p + (m.log2 : Nat) - f.fractionBits) f.leastPlace = L
    rw [cut_even, cut_even, Nat.shiftLeft_eq, Nat.shiftLeft_eq, Nat.mul_assoc, ← Nat.pow_add]
    rw [cutE_move m (p - L).toNat (L - p).toNat (k + (p - k - L).toNat) (L - (p - k)).toNat (by omega)]
theorem nearest_same (f : Format) (s : Bool) (m m' : Nat) (p p' b : Int) (h1 : b ≤ p) (h2 : b ≤ p') (h : m * 2 ^ (p - b).toNat = m' * 2 ^ (p' - b).toNat) :
    f.nearest s m p = f.nearest s m' p' := by
  rw [← nearest_shift f s m (p - b).toNat p, ← nearest_shift f s m' (p' - b).toNat p', h]
  congr 1
  omega

/-! ### what a word reads as, written again -/
theorem read_number {x : Nat} {s : Bool} {m : Nat} {p : Int} (hx : x < 18446744073709551616) (h : Ieee.double.read x = .number s m p) :
    m < 9007199254740992 ∧ -1074 ≤ p ∧ p ≤ 971 ∧ (4503599627370496 ≤ m ∨ p = -1074) ∧ x = (if s then 9223372036854775808 else 0) + ((p + 1074).toNat * 4503599627370496 + m) := by
  rw [read_eq] at h
  have hs : (if (x / 9223372036854775808 % 2 == 1) = true then 9223372036854775808 else 0) = x / 9223372036854775808 * 9223372036854775808 := by
    by_cases g : x / 9223372036854775808 % 2 = 1
    · simp [g]; omega
    · simp [g]; omega
  split at h
  · cases h
    refine ⟨by omega, by omega, by omega, Or.inr rfl, ?_⟩
    rw [hs]; omega
  · split at h
    · cases h
      refine ⟨by omega, by omega, by omega, Or.inl (by omega), ?_⟩
      rw [hs]; omega
    · split at h <;> cases h

theorem write_read {x : Nat} {s : Bool} {m : Nat} {p : Int} (hx : x < 18446744073709551616) (h : Ieee.double.read x = .number s m p) : Ieee.double.nearest s m p = x := by
  obtain ⟨h1, h2, h3, h4, h5⟩ := read_number hx h
  unfold Format.nearest
  by_cases h0 : m = 0
  · subst h0
    rw [if_pos rfl, word_eq, h5]
    have : p = -1074 := by omega
    subst this
    simp
  · rw [if_neg h0]
    have hl : m.log2 ≤ 52 := by
      have : m.log2 < 53 := (Nat.log2_lt h0).2 (by omega)
      omega
    have hL : max (p + (m.log2 : Nat) - ((Ieee.double.fractionBits : Nat) : Int)) Ieee.double.leastPlace = p := by
      rw [D_least]
      show max (p + (m.log2 : Nat) - 52) (-1074) = p
      rcases h4 with h4 | h4
      · have : 52 ≤ m.log2 := (Nat.le_log2 h0).2 (by omega)
        omega
      · omega
    simp only [hL]
    rw [cut_even]
    simp only [Int.sub_self, Int.toNat_zero, Nat.shiftLeft_zero, Nat.pow_zero, cutE_one, D_least, D_bin, D_inf, word_eq]
    rw [h5, show p - -1074 = p + 1074 from by omega, Nat.min_eq_left (by omega)]
theorem write_inf {x : Nat} {s : Bool} (hx : x < 18446744073709551616) (h : Ieee.double.read x = .infinity s) : Ieee.double.write (.infinity s) = x := by
  have e : Ieee.double.write (.infinity s) = Ieee.double.word s Ieee.double.infRung := rfl
  rw [e, word_eq, D_inf]
  rw [read_eq] at h
  split at h
  · cases h
  · split at h
    · cases h
    · split at h
      · rename_i h1 h2 h3
        cases h
        by_cases g : x / 9223372036854775808 % 2 = 1
        · simp [g]; omega
        · simp [g]; omega
      · cases h

/-- a number of at most 53 digits, within the format's places, is read as it was written -/
theorem read_nearest (s : Bool) (m : Nat) (p : Int) (hm : m < 9007199254740992) (h1 : -1074 ≤ p) (h2 : p ≤ 971) :
    ∃ m' p', Ieee.double.read (Ieee.double.nearest s m p) = .number s m' p' ∧ -1074 ≤ p' ∧ p' ≤ p ∧ m' = m * 2 ^ (p - p').toNat := by
  have hsg : ∀ r, r < 9223372036854775808 → (((if s = true then 9223372036854775808 else 0) + r) / 9223372036854775808 % 2 == 1) = s ∧ ((if s = true then 9223372036854775808 else 0) + r) % 9223372036854775808 = r := by
    intro r hr
    cases s
    · simp; omega
    · simp; omega
  unfold Format.nearest
  by_cases h0 : m = 0
  · subst h0
    rw [if_pos rfl, word_eq, read_eq, (hsg 0 (by omega)).1, (hsg 0 (by omega)).2, if_pos (by omega)]
    exact ⟨0, -1074, rfl, by omega, by omega, by simp⟩
  · rw [if_neg h0]
    have hl : m.log2 ≤ 52 := by
      have : m.log2 < 53 := (Nat.log2_lt h0).2 (by omega)
      omega
    have hlo : 2 ^ m.log2 ≤ m := Nat.log2_self_le h0
    have hhi : m < 2 ^ (m.log2 + 1) := Nat.lt_log2_self
    have eL : max (p + (m.log2 : Nat) - ((Ieee.double.fractionBits : Nat) : Int)) Ieee.double.leastPlace = max (p + (m.log2 : Nat) - 52) (-1074) := by rw [D_least]; rfl
    simp only [eL]
    generalize hL : max (p + (m.log2 : Nat) - 52) (-1074) = L
    have hLp : L ≤ p := by omega
    have hL1 : -1074 ≤ L := by omega
    rw [cut_even, show (L - p).toNat = 0 from by omega, Nat.pow_zero, cutE_one, Nat.shiftLeft_eq, D_least, D_bin, D_inf, word_eq]
    -- K: the digits that are kept
    have hK2 : m * 2 ^ (p - L).toNat < 9007199254740992 := by
      have a1 : m * 2 ^ (p - L).toNat < 2 ^ (m.log2 + 1) * 2 ^ (p - L).toNat := Nat.mul_lt_mul_of_pos_right hhi (Nat.two_pow_pos _)
      rw [← Nat.pow_add] at a1
      have a2 : 2 ^ (m.log2 + 1 + (p - L).toNat) ≤ 2 ^ 53 := Nat.pow_le_pow_right (by omega) (by omega)
      omega
    have hK1 : L = -1074 ∨ 4503599627370496 ≤ m * 2 ^ (p - L).toNat := by
      by_cases g : L = -1074
      · exact Or.inl g
      · right
        have a1 : 2 ^ m.log2 * 2 ^ (p - L).toNat ≤ m * 2 ^ (p - L).toNat := Nat.mul_le_mul_right _ hlo
        rw [← Nat.pow_add, show m.log2 + (p - L).toNat = 52 from by omega] at a1
        omega
    generalize hK : m * 2 ^ (p - L).toNat = K at *
    have hmin : min ((L - -1074).toNat * 4503599627370496 + K) 9218868437227405312 = (L + 1074).toNat * 4503599627370496 + K := by
      rw [show L - -1074 = L + 1074 from by omega]
      exact Nat.min_eq_left (by omega)
    rw [hmin, read_eq, (hsg _ (by omega)).1, (hsg _ (by omega)).2]
    split
    · rename_i g
      refine ⟨_, _, rfl, by omega, by omega, ?_⟩
      have : L = -1074 := by omega
      subst this
      rw [hK]; omega
    · rename_i g
      rw [if_pos (by omega)]
      refine ⟨_, _, rfl, by omega, by omega, ?_⟩
      have e1 : (-1074 + ((((L + 1074).toNat * 4503599627370496 + K) / 4503599627370496 - 1 : Nat) : Int)) = L := by omega
      rw [e1, hK]
      omega

/-! ### words compare by the exact numbers -/
/-- beyond every finite double, in units of the least number's place -/
def bigOf (k : Nat) : Nat := 2 ^ k
theorem bigOf_pos (k : Nat) : 0 < bigOf k := Nat.two_pow_pos k
theorem bigOf_le {k n : Nat} (h : k ≤ n) : 2 ^ k ≤ bigOf n := Nat.pow_le_pow_right (by omega) h
def big : Nat := bigOf 2200
theorem big_pos : 0 < big := bigOf_pos 2200
theorem big_le {k : Nat} (h : k ≤ 2200) : 2 ^ k ≤ big := bigOf_le h
/-- the exact number of a datum, in units of the least number's place; infinities beyond all -/
def key : Datum → Int
  | .number s m p => signed s m (p + 1074).toNat
  | .infinity s => if s then -(big : Int) else (big : Int)
  | .nan _ _ => 0

theorem signed_eq (s : Bool) (m k : Nat) : signed s m k = (if s then -1 else 1) * ((m * 2 ^ k : Nat) : Int) := by
  unfold signed
  rw [Nat.shiftLeft_eq]
  cases s <;> simp
theorem signed_add (s : Bool) (m a c : Nat) : signed s m (a + c) = signed s m a * ((2 ^ c : Nat) : Int) := by
  rw [signed_eq, signed_eq, Int.mul_assoc, ← Int.natCast_mul, Nat.mul_assoc, ← Nat.pow_add]
theorem compare_mul (x y c : Int) (hc : 0 < c) : compare (x * c) (y * c) = compare x y := by
  have h1 : (x * c < y * c) = (x < y) := propext ⟨fun h => Int.lt_of_mul_lt_mul_right h (Int.le_of_lt hc), fun h => Int.mul_lt_mul_of_pos_right h hc⟩
  have h2 : (x * c = y * c) = (x = y) := propext ⟨fun h => Int.eq_of_mul_eq_mul_right (Int.ne_of_gt hc) h, fun h => by rw [h]⟩
  simp only [compare, compareOfLessAndEq, h1, h2]
theorem key_bound {x : Nat} {s : Bool} {m : Nat} {p : Int} (hx : x < 18446744073709551616) (h : Ieee.double.read x = .number s m p) :
    -(big : Int) < signed s m (p + 1074).toNat ∧ signed s m (p + 1074).toNat < (big : Int) := by
  obtain ⟨h1, h2, h3, -, -⟩ := read_number hx h
  have a1 : m * 2 ^ (p + 1074).toNat < 2 ^ 53 * 2 ^ (p + 1074).toNat := Nat.mul_lt_mul_of_pos_right (by omega) (Nat.two_pow_pos _)
  rw [← Nat.pow_add] at a1
  have a2 : 2 ^ (53 + (p + 1074).toNat) ≤ big := big_le (by omega)
  rw [signed_eq]
  generalize big = B at *
  generalize m * 2 ^ (p + 1074).toNat = V at *
  cases s <;> simp <;> omega
theorem order_key {x y : Nat} (hx : x < 18446744073709551616) (hy : y < 18446744073709551616) (nx : (Ieee.double.read x).isNaN = false) (ny : (Ieee.double.read y).isNaN = false) :
    Ieee.double.order x y = some (compare (key (Ieee.double.read x)) (key (Ieee.double.read y))) := by
  unfold Format.order
  cases ex : Ieee.double.read x with
  | nan s t => rw [ex] at nx; cases nx
  | infinity s =>
    cases ey : Ieee.double.read y with
    | nan s t => rw [ey] at ny; cases ny
    | infinity t =>
      have hB := big_pos
      simp only [Datum.order, key]
      generalize big = B at *
      cases s <;> cases t <;> simp [compare, compareOfLessAndEq] <;> (try omega)
      all_goals (repeat' split) <;> first | rfl | omega
    | number t n j =>
      obtain ⟨k1, k2⟩ := key_bound hy ey
      simp only [Datum.order, key]
      generalize big = B at *
      cases s
      · simp only [compare, compareOfLessAndEq, Bool.false_eq_true, if_false]
        rw [if_neg (by omega), if_neg (by omega)]
      · simp only [compare, compareOfLessAndEq, if_true]
        rw [if_pos (by omega)]
  | number s m i =>
    obtain ⟨k1, k2⟩ := key_bound hx ex
    obtain ⟨-, hi, -, -, -⟩ := read_number hx ex
    cases ey : Ieee.double.read y with
    | nan s t => rw [ey] at ny; cases ny
    | infinity t =>
      simp only [Datum.order, key]
      generalize big = B at *
      cases t
      · simp only [compare, compareOfLessAndEq, Bool.false_eq_true, if_false]
        rw [if_pos (by omega)]
      · simp only [compare, compareOfLessAndEq, if_true]
        rw [if_neg (by omega), if_neg (by omega)]
    | number t n j =>
      obtain ⟨-, hj, -, -, -⟩ := read_number hy ey
      simp only [Datum.order, key]
      have e1 : (i + 1074).toNat = (i - min i j).toNat + (min i j + 1074).toNat := by omega
      have e2 : (j + 1074).toNat = (j - min i j).toNat + (min i j + 1074).toNat := by omega
      rw [e1, e2, signed_add, signed_add, compare_mul _ _ _ (by have := Nat.two_pow_pos (min i j + 1074).toNat; omega)]
end Go.Proofs.YthgcdohndchdkaaGreatDoor.W.Nu
/- Plain facts on words of IEEE 754 of 32 bits, and on their way to 64 bits and back. -/
namespace Go.Proofs.YthgcdohndchdkaaGreatDoor.W.Nu
open Ieee

end Go.Proofs.YthgcdohndchdkaaGreatDoor.W.Nu
