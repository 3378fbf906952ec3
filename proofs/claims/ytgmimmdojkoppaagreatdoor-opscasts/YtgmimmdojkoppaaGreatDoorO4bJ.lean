import Derived.Test.YtgmimmdojkoppaaGreatDoorO4aJ
/- Package ops: Binary and Unary over their jobs. -/
namespace Go.Proofs.YtgmimmdojkoppaaGreatDoor.W.Nu
open Go.ChangeShapes Go.WideShapes Go.RowKit Go.Shelf
set_option linter.unusedVariables false
set_option maxRecDepth 100000 in
theorem Binary_k (W : World) (hb : Nat) (op : ByteArray) (a b : Nat) (kf : Nat) (eg : ∀ args w, (callFunc kf args).run Tryz.prog w = .ok (.enter kf args) w) (fv : Value) (vr : Value) (rs : List Nat) (hr : WordsAt W vr rs) (hl : rs.length ≤ 999000) (k0 i0 b0 r0 : Int) (s0 : ByteArray) (k1 i1 b1 r1 : Int) (s1 : ByteArray) (lt0 : a < 18446744073709551616) (lt1 : b < 18446744073709551616)
    (cbin : Calls Tryz.prog 21 #[.string op] W fun e w' => ∃ cp, e = .returned (.func (.func kf) #[] #[.pointer (some ⟨cp, 0, none⟩)]) ∧ w'.cell? ⟨cp, 0, none⟩ = some fv ∧ Below W.heap.size W w')
    (cu0 : ∀ w', Below W.heap.size W w' → Calls Tryz.prog 18 #[.pointer (some ⟨hb, 0, none⟩), .int .u64 (a : Nat)] w' fun e w'' => e = .returned (.tuple #[.agg #[.int .i64 k0, .int .i64 i0, .int .u64 b0, .string s0, .int .u64 r0], .int .i64 0]) ∧ Below w'.heap.size w' w'') (cu1 : ∀ w', Below W.heap.size W w' → Calls Tryz.prog 18 #[.pointer (some ⟨hb, 0, none⟩), .int .u64 (b : Nat)] w' fun e w'' => e = .returned (.tuple #[.agg #[.int .i64 k1, .int .i64 i1, .int .u64 b1, .string s1, .int .u64 r1], .int .i64 0]) ∧ Below w'.heap.size w' w'')
    {R : Ending → World → Prop} (two : ∀ e w', R e w' → ∃ x y, e = .returned (.tuple #[.int .u64 x, .int .i64 y]))
    (cj : ∀ (w' : World) (cp wb vb : Nat) (vr' : Value), Below W.heap.size W w' → w'.cell? ⟨cp, 0, none⟩ = some fv → w'.cell? ⟨wb, 0, none⟩ = some (.int .u64 (a : Nat)) → w'.cell? ⟨wb, 1, none⟩ = some (.int .u64 (b : Nat)) → (∀ j, w'.cell? ⟨vb, j, none⟩ = #[.int .i64 k0, .int .i64 i0, .int .u64 b0, .string s0, .int .u64 r0, .int .i64 k1, .int .i64 i1, .int .u64 b1, .string s1, .int .u64 r1][j]?) → WordsAt w' vr' (rs ++ [a, b]) → Calls Tryz.prog kf #[.agg #[.pointer (some ⟨hb, 0, none⟩), .slice (some ⟨wb, 0, none⟩) 2 2, .slice (some ⟨vb, 0, none⟩) 2 2, vr'], .pointer (some ⟨cp, 0, none⟩)] w' R) :
    Calls Tryz.prog 10 #[.pointer (some ⟨hb, 0, none⟩), .string op, .int .u64 (a : Nat), .int .u64 (b : Nat), vr] W R := by
  obtain ⟨o1, cap1, hvr, -⟩ := id hr
  subst hvr
  have cd : ∀ (W1 : World) (cp : Nat), Below W.heap.size W W1 → W1.cell? ⟨cp, 0, none⟩ = some fv → Calls Tryz.prog 15 #[.pointer (some ⟨hb, 0, none⟩), .func (.func kf) #[] #[.pointer (some ⟨cp, 0, none⟩)], .slice (some ⟨W1.heap.size, 0, none⟩) 2 2, .slice o1 rs.length cap1] (W1.alloc (.cells #[.int .u64 (a : Nat), .int .u64 (b : Nat)] 22)) R := by
    intro W1 cp hB hc
    have hB1 : Below W1.heap.size W1 (W1.alloc (.cells #[.int .u64 (a : Nat), .int .u64 (b : Nat)] 22)) := (Below.refl _ W1).alloc (Nat.le_refl _) _
    have e1 := World.cell?_alloc_new W1 #[.int .u64 (a : Nat), .int .u64 (b : Nat)] 22
    have hB2 := hB.trans (hB1.mono hB.size)
    refine done2_k _ hb W1.heap.size a b kf eg cp _ rs (words_below hr hB2) hl k0 i0 b0 r0 s0 k1 i1 b1 r1 s1 (e1 0) (e1 1) lt0 lt1 (fun w' h => cu0 w' (hB2.trans (h.mono hB2.size))) (fun w' h => cu1 w' (hB2.trans (h.mono hB2.size))) two (fun w' vb vr' h hv hw => cj w' cp W1.heap.size vb vr' (hB2.trans (h.mono hB2.size)) (cell_keep h (cell_keep hB1 hc)) (cell_keep h (e1 0)) (cell_keep h (e1 1)) hv hw)
  have T := hid two
  clear two cj hr cu0 cu1 eg hl lt0 lt1
  have heq := fn_eql
  go_enter Tryz.func10, Tryz.ntmps10
  go_wp2_with (first | (go_at_call 21; (with_reducible refine cbin.mono ?_); rintro e W1 ⟨cp, rfl, hc, hB⟩; (replace cd := cd _ _ hB hc); clear cbin hB hc) | (go_at_call 15; (with_reducible refine cd.mono ?_); intro e w3 h3; (obtain ⟨x, y, rfl⟩ := T.out e w3 h3); clear cd))
  exact h3
set_option maxRecDepth 100000 in
theorem Binary_g (W : World) (hb : Nat) (op : ByteArray) (a b : Nat) (kf : Nat) (eg : ∀ args w, (callFunc kf args).run Tryz.prog w = .ok (.enter kf args) w) (vr : Value) (rs : List Nat) (hr : WordsAt W vr rs) (hl : rs.length ≤ 999000) (k0 i0 b0 r0 : Int) (s0 : ByteArray) (k1 i1 b1 r1 : Int) (s1 : ByteArray) (lt0 : a < 18446744073709551616) (lt1 : b < 18446744073709551616)
    (cbin : Calls Tryz.prog 21 #[.string op] W fun e w' => e = .returned (.func (.func kf) #[] #[]) ∧ Below W.heap.size W w')
    (cu0 : ∀ w', Below W.heap.size W w' → Calls Tryz.prog 18 #[.pointer (some ⟨hb, 0, none⟩), .int .u64 (a : Nat)] w' fun e w'' => e = .returned (.tuple #[.agg #[.int .i64 k0, .int .i64 i0, .int .u64 b0, .string s0, .int .u64 r0], .int .i64 0]) ∧ Below w'.heap.size w' w'') (cu1 : ∀ w', Below W.heap.size W w' → Calls Tryz.prog 18 #[.pointer (some ⟨hb, 0, none⟩), .int .u64 (b : Nat)] w' fun e w'' => e = .returned (.tuple #[.agg #[.int .i64 k1, .int .i64 i1, .int .u64 b1, .string s1, .int .u64 r1], .int .i64 0]) ∧ Below w'.heap.size w' w'')
    {R : Ending → World → Prop} (two : ∀ e w', R e w' → ∃ x y, e = .returned (.tuple #[.int .u64 x, .int .i64 y]))
    (cj : ∀ (w' : World) (wb vb : Nat) (vr' : Value), Below W.heap.size W w' → w'.cell? ⟨wb, 0, none⟩ = some (.int .u64 (a : Nat)) → w'.cell? ⟨wb, 1, none⟩ = some (.int .u64 (b : Nat)) → (∀ j, w'.cell? ⟨vb, j, none⟩ = #[.int .i64 k0, .int .i64 i0, .int .u64 b0, .string s0, .int .u64 r0, .int .i64 k1, .int .i64 i1, .int .u64 b1, .string s1, .int .u64 r1][j]?) → WordsAt w' vr' (rs ++ [a, b]) → Calls Tryz.prog kf #[.agg #[.pointer (some ⟨hb, 0, none⟩), .slice (some ⟨wb, 0, none⟩) 2 2, .slice (some ⟨vb, 0, none⟩) 2 2, vr']] w' R) :
    Calls Tryz.prog 10 #[.pointer (some ⟨hb, 0, none⟩), .string op, .int .u64 (a : Nat), .int .u64 (b : Nat), vr] W R := by
  obtain ⟨o1, cap1, hvr, -⟩ := id hr
  subst hvr
  have cd : ∀ (W1 : World), Below W.heap.size W W1 → Calls Tryz.prog 15 #[.pointer (some ⟨hb, 0, none⟩), .func (.func kf) #[] #[], .slice (some ⟨W1.heap.size, 0, none⟩) 2 2, .slice o1 rs.length cap1] (W1.alloc (.cells #[.int .u64 (a : Nat), .int .u64 (b : Nat)] 22)) R := by
    intro W1 hB 
    have hB1 : Below W1.heap.size W1 (W1.alloc (.cells #[.int .u64 (a : Nat), .int .u64 (b : Nat)] 22)) := (Below.refl _ W1).alloc (Nat.le_refl _) _
    have e1 := World.cell?_alloc_new W1 #[.int .u64 (a : Nat), .int .u64 (b : Nat)] 22
    have hB2 := hB.trans (hB1.mono hB.size)
    refine done2_g _ hb W1.heap.size a b kf eg _ rs (words_below hr hB2) hl k0 i0 b0 r0 s0 k1 i1 b1 r1 s1 (e1 0) (e1 1) lt0 lt1 (fun w' h => cu0 w' (hB2.trans (h.mono hB2.size))) (fun w' h => cu1 w' (hB2.trans (h.mono hB2.size))) two (fun w' vb vr' h hv hw => cj w' W1.heap.size vb vr' (hB2.trans (h.mono hB2.size)) (cell_keep h (e1 0)) (cell_keep h (e1 1)) hv hw)
  have T := hid two
  clear two cj hr cu0 cu1 eg hl lt0 lt1
  have heq := fn_eql
  go_enter Tryz.func10, Tryz.ntmps10
  go_wp2_with (first | (go_at_call 21; (with_reducible refine cbin.mono ?_); rintro e W1 ⟨rfl, hB⟩; (replace cd := cd _ hB); clear cbin hB) | (go_at_call 15; (with_reducible refine cd.mono ?_); intro e w3 h3; (obtain ⟨x, y, rfl⟩ := T.out e w3 h3); clear cd))
  exact h3
end Go.Proofs.YtgmimmdojkoppaaGreatDoor.W.Nu
