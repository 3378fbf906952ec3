import Derived.Test.YtgmimmdojkoppaaGreatDoorO8cJ
import Derived.Test.YtgmimmdojkoppaaGreatDoorFnZJ
/- Package ops: int and float; differences of any two numbers; what OpsCasts holds against each other. -/
namespace Go.Proofs.YtgmimmdojkoppaaGreatDoor.W.Nu
open Go.ChangeShapes Go.WideShapes Go.RowKit Go.Shelf
set_option linter.unusedVariables false
theorem eg_toInt : ∀ args w, (callFunc 29 args).run Tryz.prog w = .ok (.enter 29 args) w := enters_of Tryz.func29 (by kernel_rfl) rfl
theorem eg_toFloat : ∀ args w, (callFunc 30 args).run Tryz.prog w = .ok (.enter 30 args) w := enters_of Tryz.func30 (by kernel_rfl) rfl
theorem find_int (x5 x6 x7 x8 x9 : Nat) : findL (opsL x5 x6 x7 x8 x9) ⟨#[105, 110, 116]⟩ = some (.agg #[.int .i64 1, .func (.func 29) #[] #[]]) := by kernel_rfl
theorem find_float (x5 x6 x7 x8 x9 : Nat) : findL (opsL x5 x6 x7 x8 x9) ⟨#[102, 108, 111, 97, 116]⟩ = some (.agg #[.int .i64 1, .func (.func 30) #[] #[]]) := by kernel_rfl
section
variable {W : World} {hb vb : Nat} {vw vr : Value} {R : Ending → World → Prop}
set_option maxRecDepth 100000 in
theorem toFloat_i (i : Int) (hv : ∀ k, W.cell? ⟨vb, k, none⟩ = #[.int .i64 2, .int .i64 i, .int .u64 0, .string ⟨#[]⟩, .int .u64 0][k]?) : Calls Tryz.prog 30 #[.agg #[.pointer (some ⟨hb, 0, none⟩), vw, .slice (some ⟨vb, 0, none⟩) 1 1, vr]] W fun e w' => e = .returned (.tuple #[.int .u64 (Go.Proofs.YtgmimmdojkoppaaGreatDoor.W.fltW (fromI i)), .int .i64 0]) ∧ Below W.heap.size W w' := by
  have hB1 : Below W.heap.size W (W.alloc (.cells #[.pointer (some ⟨hb, 0, none⟩), vw, .slice (some ⟨vb, 0, none⟩) 1 1, vr] 83)) := (Below.refl _ W).alloc (Nat.le_refl _) _
  have e1 := World.cell?_alloc_new W #[.pointer (some ⟨hb, 0, none⟩), vw, .slice (some ⟨vb, 0, none⟩) 1 1, vr] 83
  have vl : vb < W.heap.size := cell_lt (hv 0)
  have cF := fun w => fromFloat_c (fromI i) (fromI_range i).1 (fromI_range i).2 w
  go_enter Tryz.func30, Tryz.ntmps30
  go_upto_region 1 with fail
  replace hv := cells_keep hB1 vl hv
  have HB := hid (hB1.alloc hB1.size (.cells #[.int .i64 2, .int .i64 i, .int .u64 0, .string ⟨#[]⟩, .int .u64 0] 47))
  generalize W.alloc (.cells #[.pointer (some ⟨hb, 0, none⟩), vw, .slice (some ⟨vb, 0, none⟩) 1 1, vr] 83) = W1 at *
  clear hB1
  go_upto_region 2 with fail
  have e2 := World.cell?_alloc_new W1 #[.int .i64 2, .int .i64 i, .int .u64 0, .string ⟨#[]⟩, .int .u64 0] 47
  generalize W1.heap.size = b1 at *
  generalize W1.alloc (.cells #[.int .i64 2, .int .i64 i, .int .u64 0, .string ⟨#[]⟩, .int .u64 0] 47) = W2 at *
  go_wp2_with (first | (go_at_call 69; (with_reducible refine (softFromInt_c _ _).mono ?_); rintro e w' ⟨rfl, hw⟩; (have hw' := hw.symm); subst hw'; clear hw) | (go_at_call 26; (with_reducible refine (cF _).mono ?_); rintro e w' ⟨rfl, hw⟩; (have hw' := hw.symm); subst hw'; clear hw))
  go_ret2
  exact ⟨rfl, HB.out⟩
set_option maxRecDepth 100000 in
theorem toInt_ok (u t : Int) (hv : ∀ k, W.cell? ⟨vb, k, none⟩ = #[.int .i64 3, .int .i64 0, .int .u64 u, .string ⟨#[]⟩, .int .u64 0][k]?) (ct : ∀ w, Calls Tryz.prog 67 #[.int .u64 u] w fun e w' => e = .returned (.tuple #[.int .i64 t, .int .i64 0]) ∧ w' = w)
    (cb : ∀ w', Below W.heap.size W w' → Calls Tryz.prog 13 #[.pointer (some ⟨hb, 0, none⟩), .agg #[.int .i64 2, .int .i64 t, .int .u64 0, .string ⟨#[]⟩, .int .u64 0], vr] w' R) (two : ∀ e w', R e w' → ∃ x y, e = .returned (.tuple #[.int .u64 x, .int .i64 y])) : Calls Tryz.prog 29 #[.agg #[.pointer (some ⟨hb, 0, none⟩), vw, .slice (some ⟨vb, 0, none⟩) 1 1, vr]] W R := by
  have hB1 : Below W.heap.size W (W.alloc (.cells #[.pointer (some ⟨hb, 0, none⟩), vw, .slice (some ⟨vb, 0, none⟩) 1 1, vr] 83)) := (Below.refl _ W).alloc (Nat.le_refl _) _
  have e1 := World.cell?_alloc_new W #[.pointer (some ⟨hb, 0, none⟩), vw, .slice (some ⟨vb, 0, none⟩) 1 1, vr] 83
  have vl : vb < W.heap.size := cell_lt (hv 0)
  have T := hid two
  clear two
  go_enter Tryz.func29, Tryz.ntmps29
  go_upto_region 1 with fail
  replace hv := cells_keep hB1 vl hv
  have l1 := cell_lt (e1 0)
  have HB := hid (hB1.alloc hB1.size (.cells #[.int .i64 3, .int .i64 0, .int .u64 u, .string ⟨#[]⟩, .int .u64 0] 47))
  generalize W.alloc (.cells #[.pointer (some ⟨hb, 0, none⟩), vw, .slice (some ⟨vb, 0, none⟩) 1 1, vr] 83) = W1 at *
  clear hB1
  go_upto_region 2 with fail
  have bB : Below W1.heap.size W1 (W1.alloc (.cells #[.int .i64 3, .int .i64 0, .int .u64 u, .string ⟨#[]⟩, .int .u64 0] 47)) := (Below.refl _ W1).alloc (Nat.le_refl _) _
  have e2 := World.cell?_alloc_new W1 #[.int .i64 3, .int .i64 0, .int .u64 u, .string ⟨#[]⟩, .int .u64 0] 47
  replace e1 := cells_keep bB l1 e1
  have cx : Calls Tryz.prog 68 #[.agg #[.pointer (some ⟨hb, 0, none⟩), vw, .slice (some ⟨vb, 0, none⟩) 1 1, vr], .int .i64 t] (W1.alloc (.cells #[.int .i64 3, .int .i64 0, .int .u64 u, .string ⟨#[]⟩, .int .u64 0] 47)) R := boxInt_g t (fun w' h => cb w' (HB.out.trans (h.mono HB.out.size))) T.out
  clear bB l1 cb
  generalize W1.heap.size = b1 at *
  generalize W1.alloc (.cells #[.int .i64 3, .int .i64 0, .int .u64 u, .string ⟨#[]⟩, .int .u64 0] 47) = W2 at *
  go_wp2_with (first | (go_at_call 67; (with_reducible refine (ct _).mono ?_); rintro e w' ⟨rfl, hw⟩; (have hw' := hw.symm); subst hw'; clear hw) | (go_at_call 68; (with_reducible refine cx.mono ?_); intro e w3 h3; (obtain ⟨x, y, rfl⟩ := T.out e w3 h3); clear cx))
  exact h3
set_option maxRecDepth 100000 in
theorem toInt_out (u : Int) (hv : ∀ k, W.cell? ⟨vb, k, none⟩ = #[.int .i64 3, .int .i64 0, .int .u64 u, .string ⟨#[]⟩, .int .u64 0][k]?) (ct : ∀ w, Calls Tryz.prog 67 #[.int .u64 u] w fun e w' => e = .returned (.tuple #[.int .i64 0, .int .i64 13]) ∧ w' = w) : Calls Tryz.prog 29 #[.agg #[.pointer (some ⟨hb, 0, none⟩), vw, .slice (some ⟨vb, 0, none⟩) 1 1, vr]] W fun e w' => e = .returned (.tuple #[.int .u64 0, .int .i64 13]) ∧ Below W.heap.size W w' := by
  have hB1 : Below W.heap.size W (W.alloc (.cells #[.pointer (some ⟨hb, 0, none⟩), vw, .slice (some ⟨vb, 0, none⟩) 1 1, vr] 83)) := (Below.refl _ W).alloc (Nat.le_refl _) _
  have vl : vb < W.heap.size := cell_lt (hv 0)
  have e1 := World.cell?_alloc_new W #[.pointer (some ⟨hb, 0, none⟩), vw, .slice (some ⟨vb, 0, none⟩) 1 1, vr] 83
  go_enter Tryz.func29, Tryz.ntmps29
  go_upto_region 1 with fail
  replace hv := cells_keep hB1 vl hv
  have HB := hid (hB1.alloc hB1.size (.cells #[.int .i64 3, .int .i64 0, .int .u64 u, .string ⟨#[]⟩, .int .u64 0] 47))
  generalize W.alloc (.cells #[.pointer (some ⟨hb, 0, none⟩), vw, .slice (some ⟨vb, 0, none⟩) 1 1, vr] 83) = W1 at *
  clear hB1
  go_upto_region 2 with fail
  have e2 := World.cell?_alloc_new W1 #[.int .i64 3, .int .i64 0, .int .u64 u, .string ⟨#[]⟩, .int .u64 0] 47
  generalize W1.heap.size = b1 at *
  generalize W1.alloc (.cells #[.int .i64 3, .int .i64 0, .int .u64 u, .string ⟨#[]⟩, .int .u64 0] 47) = W2 at *
  go_wp2_with (go_at_call 67; (with_reducible refine (ct _).mono ?_); rintro e w' ⟨rfl, hw⟩; (have hw' := hw.symm); subst hw'; clear hw)
  go_ret2
  exact ⟨rfl, HB.out⟩
end
section
variable {W0 W : World} {hb : Nat} {H : List (Option Hc)} {u' : Nat} {K : Nat → Prop}
theorem dbl_unbox (x : Nat) (hc : Go.Proofs.YtgmimmdojkoppaaGreatDoor.W.cls (x : Int) = 1) (hl : x < 18446744073709551616) (W : World) : Calls Tryz.prog 18 #[.pointer (some ⟨hb, 0, none⟩), .int .u64 (x : Nat)] W fun e w' => e = .returned (.tuple #[.agg #[.int .i64 3, .int .i64 0, .int .u64 (x : Nat), .string ⟨#[]⟩, .int .u64 0], .int .i64 0]) ∧ Below W.heap.size W w' :=
  unbox_flt (x : Int) (by omega) (by omega) hc _ W
theorem bin_float (q : Hf W0 W hb H u' K) (x wb : Nat) (i : Int) (hx : IsInt H x i) (hw0 : W.cell? ⟨wb, 0, none⟩ = some (.int .u64 (x : Nat))) (vr : Value) (rs : List Nat) (hr : WordsAt W vr rs) (hl : rs.length ≤ 999000) :
    Calls Tryz.prog 6 #[.pointer (some ⟨hb, 0, none⟩), .string ⟨#[102, 108, 111, 97, 116]⟩, .slice (some ⟨wb, 0, none⟩) 1 1, vr] W fun e w' => e = .returned (.tuple #[.int .u64 (Go.Proofs.YtgmimmdojkoppaaGreatDoor.W.fltW (fromI i)), .int .i64 0]) ∧ Below W.heap.size W w' := by
  refine Builtin_1 W hb _ x wb _ eg_toFloat vr rs hr hl 2 i 0 0 ⟨#[]⟩ (IsInt.lt hx) hw0 find_float (fun w' h => unbox_int (q.below' h).2.choose_spec.1 x i hx) (by rintro e w' ⟨rfl, _⟩; exact ⟨_, _, rfl⟩) (fun w' vb vr' h hc hv hw => ?_)
  refine (toFloat_i i hv).mono ?_
  rintro e w3 ⟨rfl, h3⟩
  exact ⟨rfl, h.trans (h3.mono h.size)⟩
theorem bin_int (q : Hf W0 W hb H u' K) (x wb : Nat) (t : Int) (hc1 : Go.Proofs.YtgmimmdojkoppaaGreatDoor.W.cls (x : Int) = 1) (hlx : x < 18446744073709551616) (t0 : -9223372036854775808 ≤ t) (t1 : t ≤ 9223372036854775807) (ct : ∀ w, Calls Tryz.prog 67 #[.int .u64 (x : Nat)] w fun e w' => e = .returned (.tuple #[.int .i64 t, .int .i64 0]) ∧ w' = w) (hw0 : W.cell? ⟨wb, 0, none⟩ = some (.int .u64 (x : Nat))) (vr : Value) (rs : List Nat) (hr : WordsAt W vr rs) (hl : rs.length ≤ 999000) (hf : sumH H + 2 ≤ u') (hH : H.length ≤ 1000000) :
    Calls Tryz.prog 6 #[.pointer (some ⟨hb, 0, none⟩), .string ⟨#[105, 110, 116]⟩, .slice (some ⟨wb, 0, none⟩) 1 1, vr] W (BPost W0 W hb H u' K (fun H' w => IsInt H' w t) (nI t)) := by
  refine Builtin_1 W hb _ x wb _ eg_toInt vr rs hr hl 3 0 x 0 ⟨#[]⟩ hlx hw0 find_int (fun w' h => dbl_unbox x hc1 hlx w') (fun e w' h => h.two) (fun w' vb vr' h hc hv hw => ?_)
  exact toInt_ok x t hv ct (fun w2 h2 => (boxI (q.below' (h.trans (h2.mono h.size))) vr' _ (words_below hw h2) t t0 t1 hf hH).mono (fun e w3 h3 => h3.on (h.trans (h2.mono h.size)))) (fun e w' h => h.two)
theorem bin_int_out (x wb : Nat) (hc1 : Go.Proofs.YtgmimmdojkoppaaGreatDoor.W.cls (x : Int) = 1) (hlx : x < 18446744073709551616) (ct : ∀ w, Calls Tryz.prog 67 #[.int .u64 (x : Nat)] w fun e w' => e = .returned (.tuple #[.int .i64 0, .int .i64 13]) ∧ w' = w) (hw0 : W.cell? ⟨wb, 0, none⟩ = some (.int .u64 (x : Nat))) (vr : Value) (rs : List Nat) (hr : WordsAt W vr rs) (hl : rs.length ≤ 999000) :
    Calls Tryz.prog 6 #[.pointer (some ⟨hb, 0, none⟩), .string ⟨#[105, 110, 116]⟩, .slice (some ⟨wb, 0, none⟩) 1 1, vr] W fun e w' => e = .returned (.tuple #[.int .u64 0, .int .i64 13]) ∧ Below W.heap.size W w' := by
  refine Builtin_1 W hb _ x wb _ eg_toInt vr rs hr hl 3 0 x 0 ⟨#[]⟩ hlx hw0 find_int (fun w' h => dbl_unbox x hc1 hlx w') (by rintro e w' ⟨rfl, _⟩; exact ⟨_, _, rfl⟩) (fun w' vb vr' h hc hv hw => ?_)
  refine (toInt_out x hv ct).mono ?_
  rintro e w3 ⟨rfl, h3⟩
  exact ⟨rfl, h.trans (h3.mono h.size)⟩
theorem eg_sub' : ∀ args w, (callFunc 53 args).run Tryz.prog w = .ok (.enter 53 args) w := enters_of Tryz.func53 (by kernel_rfl) rfl
set_option maxRecDepth 100000 in
theorem binary_sub' (W : World) : Calls Tryz.prog 21 #[.string ⟨#[45]⟩] W fun e w' => ∃ cp, e = .returned (.func (.func 97) #[] #[.pointer (some ⟨cp, 0, none⟩)]) ∧ w'.cell? ⟨cp, 0, none⟩ = some (.func (.func 53) #[] #[]) ∧ Below W.heap.size W w' := by
  go_enter Tryz.func21, Tryz.ntmps21
  go_wp2_with (go_at_call 52; (with_reducible refine (reckons_c _ _).mono ?_); rintro e w2 ⟨rfl, h⟩)
  go_ret
  exact ⟨_, rfl, h⟩
theorem subN_ok (a b : Bool) (i u j v : Int) : ROk (subR a i u b j v) := by
  unfold subR
  split
  · exact fitR_ok _
  · exact .inr (.inl ⟨_, rfl, (opI_range _ _ _).1, (opI_range _ _ _).2⟩)
theorem bin_subN (q : Hf W0 W hb H u' K) (x y : Nat) (a b : Bool) (i u j v : Int) (hx : IsNum H x a i u) (hy : IsNum H y b j v) (vr : Value) (rs : List Nat) (hr : WordsAt W vr rs) (hl : rs.length ≤ 999000) (hf : sumH H + 2 ≤ u') (hH : H.length ≤ 1000000) : Calls Tryz.prog 10 #[.pointer (some ⟨hb, 0, none⟩), .string ⟨#[45]⟩, .int .u64 (x : Nat), .int .u64 (y : Nat), vr] W (EP W0 W hb H u' K (subR a i u b j v)) := by
  have sx := hx.shape
  have sy := hy.shape
  have ix := hx.inN
  have iy := hy.inN
  refine Binary_k W hb _ x y _ eg_reckons1 _ vr rs hr hl (kV a) i u 0 ⟨#[]⟩ (kV b) j v 0 ⟨#[]⟩ hx.lt hy.lt (binary_sub' W) (fun w' h => unbox_n (q.below' h).2.choose_spec.1 x a i u hx) (fun w' h => unbox_n (q.below' h).2.choose_spec.1 y b j v hy) EP.two (fun w' cp wb vb vr' h hc hw0 hw1 hv hw => ?_)
  exact rec_res q hf hH w' h cp _ vb _ vr' _ eg_sub' hc hw a b i u j v sx sy hv _ (subN_ok a b i u j v) (fun w => numSub_c a b i u j v ix.1.1 ix.1.2 iy.1.1 iy.1.2 w)
end
end Go.Proofs.YtgmimmdojkoppaaGreatDoor.W.Nu
