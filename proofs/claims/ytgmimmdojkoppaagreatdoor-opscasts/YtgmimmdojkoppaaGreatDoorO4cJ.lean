import Derived.Test.YtgmimmdojkoppaaGreatDoorO4bJ
/- Package ops, beside a heap that a statement made: operators on whole numbers. -/
namespace Go.Proofs.YtgmimmdojkoppaaGreatDoor.W.Nu
open Go.ChangeShapes Go.WideShapes Go.RowKit Go.Shelf
set_option linter.unusedVariables false
theorem unbox_txt {W : World} {S : Nat → Prop} {hb : Nat} {H : List (Option Hc)} {u : Nat} (q : HSt W S hb H u) (w : Nat) (t : ByteArray) (h : IsTxt H w t) :
    Calls Tryz.prog 18 #[.pointer (some ⟨hb, 0, none⟩), .int .u64 w] W fun e w' => e = .returned (.tuple #[.agg #[.int .i64 4, .int .i64 0, .int .u64 0, .string t, .int .u64 0], .int .i64 0]) ∧ Below W.heap.size W w' := by
  rcases h with ⟨h1, h2⟩ | ⟨id, rfl, h2, h3⟩
  · rw [h2]; exact unbox_stext t h1 _ W
  · obtain ⟨sb, vc, T, l, _⟩ := q
    exact unbox_text l (hw id) (hw_lt id h2) (cls_hw id h2) id (hit_hw h2 h3) t h3
theorem eg_add : ∀ args w, (callFunc 96 args).run Tryz.prog w = .ok (.enter 96 args) w := enters_of Tryz.func96 (by kernel_rfl) rfl
section
variable {W0 W : World} {hb : Nat} {H : List (Option Hc)} {u : Nat} {K : Nat → Prop}
theorem IsInt.lt {w : Nat} {i : Int} (h : IsInt H w i) : w < 18446744073709551616 := by
  rcases h with ⟨h1, h2⟩ | ⟨id, rfl, h2, h3⟩
  · have := intW_bd i h1
    omega
  · exact hw_lt id h2
theorem bin_and (q : Hf W0 W hb H u K) (a b : Nat) (i j : Int) (hi : IsInt H a i) (hj : IsInt H b j) (vr : Value) (rs : List Nat) (hr : WordsAt W vr rs) (hl : rs.length ≤ 999000) (hf : sumH H + 2 ≤ u) (hH : H.length ≤ 1000000) :
    Calls Tryz.prog 10 #[.pointer (some ⟨hb, 0, none⟩), .string ⟨#[38]⟩, .int .u64 (a : Nat), .int .u64 (b : Nat), vr] W (BPost W0 W hb H u K (fun H' w => IsInt H' w (bits .and .i64 i j)) (nI (bits .and .i64 i j))) := by
  refine Binary_k W hb _ a b _ eg_joins1 _ vr rs hr hl 2 i 0 0 ⟨#[]⟩ 2 j 0 0 ⟨#[]⟩ (IsInt.lt hi) (IsInt.lt hj) (binary_and W) (fun w' h => unbox_int (q.below' h).2.choose_spec.1 a i hi) (fun w' h => unbox_int (q.below' h).2.choose_spec.1 b j hj) (fun e w' h => h.two) (fun w' cp wb vb vr' h hc hw0 hw1 hv hw => ?_)
  exact joins1_g cp _ eg_bit1 i j (bits .and .i64 i j) 0 0 0 0 _ _ hc hv (bit1_c i j) (fun w2 h2 => (boxI (q.below' (h.trans (h2.mono h.size))) vr' _ (words_below hw h2) _ (bits_lo_i64 _ _ _) (bits_hi_i64 _ _ _) hf hH).mono (fun e w3 h3 => h3.on (h.trans (h2.mono h.size)))) (fun e w' h => h.two)
theorem bin_or (q : Hf W0 W hb H u K) (a b : Nat) (i j : Int) (hi : IsInt H a i) (hj : IsInt H b j) (vr : Value) (rs : List Nat) (hr : WordsAt W vr rs) (hl : rs.length ≤ 999000) (hf : sumH H + 2 ≤ u) (hH : H.length ≤ 1000000) :
    Calls Tryz.prog 10 #[.pointer (some ⟨hb, 0, none⟩), .string ⟨#[124]⟩, .int .u64 (a : Nat), .int .u64 (b : Nat), vr] W (BPost W0 W hb H u K (fun H' w => IsInt H' w (bits .or .i64 i j)) (nI (bits .or .i64 i j))) := by
  refine Binary_k W hb _ a b _ eg_joins1 _ vr rs hr hl 2 i 0 0 ⟨#[]⟩ 2 j 0 0 ⟨#[]⟩ (IsInt.lt hi) (IsInt.lt hj) (binary_or W) (fun w' h => unbox_int (q.below' h).2.choose_spec.1 a i hi) (fun w' h => unbox_int (q.below' h).2.choose_spec.1 b j hj) (fun e w' h => h.two) (fun w' cp wb vb vr' h hc hw0 hw1 hv hw => ?_)
  exact joins1_g cp _ eg_bit2 i j (bits .or .i64 i j) 0 0 0 0 _ _ hc hv (bit2_c i j) (fun w2 h2 => (boxI (q.below' (h.trans (h2.mono h.size))) vr' _ (words_below hw h2) _ (bits_lo_i64 _ _ _) (bits_hi_i64 _ _ _) hf hH).mono (fun e w3 h3 => h3.on (h.trans (h2.mono h.size)))) (fun e w' h => h.two)
theorem bin_xor (q : Hf W0 W hb H u K) (a b : Nat) (i j : Int) (hi : IsInt H a i) (hj : IsInt H b j) (vr : Value) (rs : List Nat) (hr : WordsAt W vr rs) (hl : rs.length ≤ 999000) (hf : sumH H + 2 ≤ u) (hH : H.length ≤ 1000000) :
    Calls Tryz.prog 10 #[.pointer (some ⟨hb, 0, none⟩), .string ⟨#[94]⟩, .int .u64 (a : Nat), .int .u64 (b : Nat), vr] W (BPost W0 W hb H u K (fun H' w => IsInt H' w (bits .xor .i64 i j)) (nI (bits .xor .i64 i j))) := by
  refine Binary_k W hb _ a b _ eg_joins1 _ vr rs hr hl 2 i 0 0 ⟨#[]⟩ 2 j 0 0 ⟨#[]⟩ (IsInt.lt hi) (IsInt.lt hj) (binary_xor W) (fun w' h => unbox_int (q.below' h).2.choose_spec.1 a i hi) (fun w' h => unbox_int (q.below' h).2.choose_spec.1 b j hj) (fun e w' h => h.two) (fun w' cp wb vb vr' h hc hw0 hw1 hv hw => ?_)
  exact joins1_g cp _ eg_bit3 i j (bits .xor .i64 i j) 0 0 0 0 _ _ hc hv (bit3_c i j) (fun w2 h2 => (boxI (q.below' (h.trans (h2.mono h.size))) vr' _ (words_below hw h2) _ (bits_lo_i64 _ _ _) (bits_hi_i64 _ _ _) hf hH).mono (fun e w3 h3 => h3.on (h.trans (h2.mono h.size)))) (fun e w' h => h.two)
/-- a sum of whole numbers -/
theorem bin_add (q : Hf W0 W hb H u K) (a b : Nat) (i j : Int) (hi : IsInt H a i) (hj : IsInt H b j) (i0 : -9223372036854775808 ≤ i) (i1 : i < 9223372036854775808) (j0 : -9223372036854775808 ≤ j) (j1 : j < 9223372036854775808) (hs : -9223372036854775808 ≤ i + j ∧ i + j < 9223372036854775808) (vr : Value) (rs : List Nat) (hr : WordsAt W vr rs) (hl : rs.length ≤ 999000) (hf : sumH H + 2 ≤ u) (hH : H.length ≤ 1000000) :
    Calls Tryz.prog 10 #[.pointer (some ⟨hb, 0, none⟩), .string ⟨#[43]⟩, .int .u64 (a : Nat), .int .u64 (b : Nat), vr] W (BPost W0 W hb H u K (fun H' w => IsInt H' w (i + j)) (nI (i + j))) := by
  refine Binary_g W hb _ a b _ eg_plus vr rs hr hl 2 i 0 0 ⟨#[]⟩ 2 j 0 0 ⟨#[]⟩ (IsInt.lt hi) (IsInt.lt hj) (binary_plus W) (fun w' h => unbox_int (q.below' h).2.choose_spec.1 a i hi) (fun w' h => unbox_int (q.below' h).2.choose_spec.1 b j hj) (fun e w' h => h.two) (fun w' wb vb vr' h hw0 hw1 hv hw => ?_)
  have vl : vb < w'.heap.size := cell_lt (hv 0)
  refine plus_g 2 i 0 0 2 j 0 0 _ _ (by decide) hv (fun w2 cp h2 hc => ?_) (fun e w' h => h.two)
  have cg : ∀ w, Calls Tryz.prog 96 #[.agg #[.bool true, .int .i64 i, .int .u64 0], .agg #[.bool true, .int .i64 j, .int .u64 0]] w fun e w' => e = .returned (.tuple #[.agg #[.bool true, .int .i64 (i + j), .int .u64 0], .int .i64 0]) ∧ Gr w w' := by
    intro w
    have := numAdd_c true true i 0 j 0 i0 i1 j0 j1 w
    unfold addR at this
    rw [if_pos ⟨rfl, rfl⟩, fitR_in hs] at this
    exact this
  refine reckons1_g cp _ eg_add hc true true true i 0 j 0 (i + j) 0 (fun w3 h3 => ?_) cg (fun w3 h3 => ?_) (fun e w' h => h.two)
  · have h23 := h2.trans (h3.mono h2.size)
    exact numbers_tt w3 hb vb 2 _ _ (by decide) (by decide) 2 i 0 0 2 j 0 0 _ _ (fun k => by rw [h23.cell (p := ⟨vb, k, none⟩) vl]; exact hv k) true true i 0 j 0 (number_i i 0 0 _) (number_i j 0 0 _)
  · refine boxNum_i (i + j) 0 (fun w4 h4 => ?_) (fun e w' h => h.two)
    have h24 := h2.trans ((h3.trans (h4.mono h3.size)).mono h2.size)
    exact (boxI (q.below' (h.trans (h24.mono h.size))) vr' _ (words_below hw h24) _ hs.1 (by omega) hf hH).mono (fun e w5 h5 => h5.on (h.trans (h24.mono h.size)))
end
end Go.Proofs.YtgmimmdojkoppaaGreatDoor.W.Nu
