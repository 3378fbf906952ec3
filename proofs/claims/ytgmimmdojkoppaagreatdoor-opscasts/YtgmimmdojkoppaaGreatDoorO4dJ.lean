import Derived.Test.YtgmimmdojkoppaaGreatDoorO4cJ
/- Package ops: built-in functions of one argument; Told of a string; Arity; casketlaw10's awake. -/
namespace Go.Proofs.YtgmimmdojkoppaaGreatDoor.W.Nu
open Go.ChangeShapes Go.WideShapes Go.RowKit Go.Shelf
set_option linter.unusedVariables false
set_option maxRecDepth 100000 in
theorem Builtin_1 (W : World) (hb : Nat) (name : ByteArray) (a wb : Nat) (kf : Nat) (eg : ∀ args w, (callFunc kf args).run Tryz.prog w = .ok (.enter kf args) w) (vr : Value) (rs : List Nat) (hr : WordsAt W vr rs) (hl : rs.length ≤ 999000) (k0 i0 b0 r0 : Int) (s0 : ByteArray) (lt0 : a < 18446744073709551616) (hw0 : W.cell? ⟨wb, 0, none⟩ = some (.int .u64 (a : Nat)))
    (hfind : ∀ x5 x6 x7 x8 x9, findL (opsL x5 x6 x7 x8 x9) name = some (.agg #[.int .i64 1, .func (.func kf) #[] #[]]))
    (cu0 : ∀ w', Below W.heap.size W w' → Calls Tryz.prog 18 #[.pointer (some ⟨hb, 0, none⟩), .int .u64 (a : Nat)] w' fun e w'' => e = .returned (.tuple #[.agg #[.int .i64 k0, .int .i64 i0, .int .u64 b0, .string s0, .int .u64 r0], .int .i64 0]) ∧ Below w'.heap.size w' w'')
    {R : Ending → World → Prop} (two : ∀ e w', R e w' → ∃ x y, e = .returned (.tuple #[.int .u64 x, .int .i64 y]))
    (cj : ∀ (w' : World) (vb : Nat) (vr' : Value), Below W.heap.size W w' → w'.cell? ⟨wb, 0, none⟩ = some (.int .u64 (a : Nat)) → (∀ j, w'.cell? ⟨vb, j, none⟩ = #[.int .i64 k0, .int .i64 i0, .int .u64 b0, .string s0, .int .u64 r0][j]?) → WordsAt w' vr' (rs ++ [a]) → Calls Tryz.prog kf #[.agg #[.pointer (some ⟨hb, 0, none⟩), .slice (some ⟨wb, 0, none⟩) 1 1, .slice (some ⟨vb, 0, none⟩) 1 1, vr']] w' R) :
    Calls Tryz.prog 6 #[.pointer (some ⟨hb, 0, none⟩), .string name, .slice (some ⟨wb, 0, none⟩) 1 1, vr] W R := by
  obtain ⟨o1, cap1, hvr, -⟩ := id hr
  subst hvr
  have cd : ∀ (W1 : World), Below W.heap.size W W1 → Calls Tryz.prog 15 #[.pointer (some ⟨hb, 0, none⟩), .func (.func kf) #[] #[], .slice (some ⟨wb, 0, none⟩) 1 1, .slice o1 rs.length cap1] (W1.alloc (.cells #[.int .i64 1, .func (.func kf) #[] #[]] 52)) R := by
    intro W1 hB
    have hB1 : Below W1.heap.size W1 (W1.alloc (.cells #[.int .i64 1, .func (.func kf) #[] #[]] 52)) := (Below.refl _ W1).alloc (Nat.le_refl _) _
    have hB2 := hB.trans (hB1.mono hB.size)
    exact done1_g _ hb wb a kf eg _ rs (words_below hr hB2) hl k0 i0 b0 r0 s0 (cell_keep hB2 hw0) lt0 (fun w' h => cu0 w' (hB2.trans (h.mono hB2.size))) two (fun w' vb vr' h hv hw => cj w' vb vr' (hB2.trans (h.mono hB2.size)) (cell_keep h (cell_keep hB2 hw0)) hv hw)
  have T := hid two
  have F := hid hfind
  clear two cj hr cu0 eg hl lt0 hw0 hfind
  go_enter Tryz.func6, Tryz.ntmps6
  go_wp2_with (first | (go_at_call 14; (with_reducible refine (builtins_c _).mono ?_); rintro e W1 ⟨b, x5, x6, x7, x8, x9, rfl, HL, hB⟩; (have hlk := run_lookup_l underBM underBS HL name _ (F.out x5 x6 x7 x8 x9)); (replace cd := cd _ hB); clear HL hB) | (go_at_call 15; (with_reducible refine cd.mono ?_); intro e w3 h3; (obtain ⟨x, y, rfl⟩ := T.out e w3 h3); clear cd))
  exact h3
theorem find_chr (x5 x6 x7 x8 x9 : Nat) : findL (opsL x5 x6 x7 x8 x9) ⟨#[99, 104, 114]⟩ = some (.agg #[.int .i64 1, .func (.func 36) #[] #[]]) := by kernel_rfl
theorem find_view (x5 x6 x7 x8 x9 : Nat) : findL (opsL x5 x6 x7 x8 x9) ⟨#[118, 105, 101, 119]⟩ = some (.agg #[.int .i64 4, .func (.func 40) #[] #[]]) := by kernel_rfl
theorem arity_view (W : World) : Calls Tryz.prog 20 #[.string ⟨#[118, 105, 101, 119]⟩] W fun e w' => e = .returned (.tuple #[.int .i64 4, .bool true]) ∧ Below W.heap.size W w' := by
  go_enter Tryz.func20, Tryz.ntmps20
  go_wp2_with (go_at_call 14; (with_reducible refine (builtins_c _).mono ?_); rintro e W1 ⟨b, x5, x6, x7, x8, x9, rfl, HL, hB⟩; (have hlk := run_lookup_l underBM underBS HL _ _ (find_view x5 x6 x7 x8 x9)); clear HL)
  go_ret2
  exact ⟨rfl, hB.alloc hB.size _⟩
set_option maxRecDepth 100000 in
theorem told_txt (t : ByteArray) (W : World) : Calls Tryz.prog 50 #[.agg #[.int .i64 4, .int .i64 0, .int .u64 0, .string t, .int .u64 0]] W fun e w' => e = .returned (.tuple #[.string t, .int .i64 0]) ∧ Below W.heap.size W w' := by
  go_enter Tryz.func50, Tryz.ntmps50
  go_wp2
  go_ret2
  exact ⟨rfl, (Below.refl _ W).alloc (Nat.le_refl _) _⟩
theorem Told_txt (W : World) (hb a : Nat) (t : ByteArray) (cu : Calls Tryz.prog 18 #[.pointer (some ⟨hb, 0, none⟩), .int .u64 (a : Nat)] W fun e w'' => e = .returned (.tuple #[.agg #[.int .i64 4, .int .i64 0, .int .u64 0, .string t, .int .u64 0], .int .i64 0]) ∧ Below W.heap.size W w'') :
    Calls Tryz.prog 19 #[.pointer (some ⟨hb, 0, none⟩), .int .u64 (a : Nat)] W fun e w' => e = .returned (.tuple #[.string t, .int .i64 0]) ∧ Below W.heap.size W w' := by
  go_enter Tryz.func19, Tryz.ntmps19
  go_wp2_with (first | (go_at_call 18; (with_reducible refine cu.mono ?_); rintro e W1 ⟨rfl, hB⟩; (replace hB := hid hB); clear cu) | (go_at_call 50; (with_reducible refine (told_txt _ _).mono ?_); rintro e W2 ⟨rfl, hB2⟩))
  go_ret2
  have h1 := hB.out.alloc hB.out.size (.cells #[.int .i64 4, .int .i64 0, .int .u64 0, .string t, .int .u64 0] 47)
  exact ⟨rfl, h1.trans (hB2.mono h1.size)⟩
section
variable {W0 W : World} {hb : Nat} {H : List (Option Hc)} {u : Nat} {K : Nat → Prop}
theorem num_sum {id : Nat} {i : Int} (h : H[id]? = some (some (.num i))) : 2 ≤ sumH H := by
  obtain ⟨hl, he⟩ := List.getElem?_eq_some_iff.1 h
  have := sumH_set H id none hl
  rw [he] at this
  have e1 : needO (some (Hc.num i)) = 2 := num_need i
  have e2 : needO none = 0 := rfl
  omega
theorem small_word {w : Nat} {i : Int} (h : IsInt H w i) (hs : sumH H < 2) : (w : Int) = intW i := by
  rcases h with ⟨_, h2⟩ | ⟨id, rfl, h2, h3⟩
  · exact h2
  · have := num_sum h3; omega
theorem bin_chr65 (q : Hf W0 W hb H u K) (wb : Nat) (hw0 : W.cell? ⟨wb, 0, none⟩ = some (.int .u64 (18444773748872577089 : Nat))) (vr : Value) (rs : List Nat) (hr : WordsAt W vr rs) (hl : rs.length ≤ 999000) (hf : sumH H + 2 ≤ u) (hH : H.length ≤ 1000000) :
    Calls Tryz.prog 6 #[.pointer (some ⟨hb, 0, none⟩), .string ⟨#[99, 104, 114]⟩, .slice (some ⟨wb, 0, none⟩) 1 1, vr] W (BPost W0 W hb H u K (fun H' w => IsTxt H' w ⟨#[65]⟩) (nT ⟨#[65]⟩)) := by
  have tA : tneed ⟨#[65]⟩ = 2 := by decide
  have hi : IsInt H 18444773748872577089 65 := .inl ⟨by decide, by decide⟩
  refine Builtin_1 W hb _ 18444773748872577089 wb _ eg_character vr rs hr hl 2 65 0 0 ⟨#[]⟩ (by decide) hw0 find_chr (fun w' h => unbox_int (q.below' h).2.choose_spec.1 _ 65 hi) (fun e w' h => h.two) (fun w' vb vr' h hc hv hw => ?_)
  exact character65 0 0 _ hv (fun w2 h2 => (boxS (q.below' (h.trans (h2.mono h.size))) vr' _ (words_below hw h2) ⟨#[65]⟩ (by decide) (by rw [tA]; exact hf) hH).mono (fun e w3 h3 => h3.on (h.trans (h2.mono h.size)))) (fun e w' h => h.two)
end
set_option maxRecDepth 100000 in
set_option maxHeartbeats 1000000 in
theorem awake10_c (W : World) : Calls Tryz.prog 9 #[] W fun e w' => e = .returned (.bool true) ∧ Below W.heap.size W w' := by
  have cn := hf_new (Below.refl W.heap.size W) 9 (by decide)
  rw [show ((9 : Nat) : Int) = 9 from rfl] at cn
  go_enter Tryz.func9, Tryz.ntmps9
  go_upto_region 4 with (go_at_call 4; (with_reducible refine cn.mono ?_); rintro e W1 ⟨hb, rfl, q1, hB1⟩; clear cn)
  have c1 := bin_add q1 18444773748872577025 18444773748872577026 1 2 (.inl ⟨by decide, by decide⟩) (.inl ⟨by decide, by decide⟩) (by decide) (by decide) (by decide) (by decide) (by decide) (.slice none 0 0) [] (words_nil' W1) (by decide) (by decide) (by decide)
  rw [show ((18444773748872577025 : Nat) : Int) = 18444773748872577025 from rfl, show ((18444773748872577026 : Nat) : Int) = 18444773748872577026 from rfl] at c1
  have e3 : nI (1 + 2) = 0 := by decide
  go_upto_region 5 with (go_at_call 10; (with_reducible refine c1.mono ?_); rintro e W2 ⟨w, H2, rfl, q2, hE2, hI2, hs2, hl2, hA2, hlt2, hU2⟩; clear c1; (have hw2 := small_word hI2 (by rw [hs2, e3]; decide)); (rw [show intW (1 + 2) = 18444773748872577027 from by decide] at hw2); (rw [hw2]))
  have hB2a : Below W2.heap.size W2 (W2.alloc (.cells #[.int .u64 18444773748872577089] 22)) := (Below.refl _ W2).alloc (Nat.le_refl _) _
  have c2 := bin_chr65 (q2.below' hB2a) W2.heap.size (World.cell?_alloc_new W2 #[.int .u64 18444773748872577089] 22 0) (.slice none 0 0) [] (words_nil' _) (by decide) (by rw [hs2, e3]; decide) (by simp only [List.length_nil] at hl2; omega)
  clear q1 hE2 hI2 hA2 hlt2 hU2 hw2 hB1 q2 hB2a hl2 hs2
  go_upto_region 6 with (go_at_call 6; (with_reducible refine c2.mono ?_); rintro e W3 ⟨w3, H3, rfl, q3, hE3, hI3, hs3, hl3, hA3, hlt3, hU3⟩; clear c2)
  have c3 := Told_txt W3 hb w3 _ (unbox_txt q3.2.choose_spec.1 w3 _ hI3)
  have HB := hid q3.bel
  clear q3 hE3 hI3 hs3 hl3 hA3 hlt3 hU3
  go_wp2_with (first | (go_at_call 19; (with_reducible refine c3.mono ?_); rintro e W4 ⟨rfl, hB4⟩; clear c3) | (go_at_call 20; (with_reducible refine (arity_view _).mono ?_); rintro e W5 ⟨rfl, hB5⟩))
  go_ret
  exact ⟨rfl, HB.out.trans ((hB4.trans (hB5.mono hB4.size)).mono HB.out.size)⟩
end Go.Proofs.YtgmimmdojkoppaaGreatDoor.W.Nu
