import Derived.Test.YtgmimmdojkoppaaGreatDoorO8aJ
/- Truths in words: Unbox, not. -/
namespace Go.Proofs.YtgmimmdojkoppaaGreatDoor.W.Nu
open Go.ChangeShapes Go.WideShapes Go.RowKit Go.Shelf
set_option linter.unusedVariables false
theorem toB_true (w : World) : Calls Tryz.prog 90 #[.int .u64 (boolW true)] w fun e w' => e = .returned (.tuple #[.bool true, .bool true]) ∧ w' = w := by
  have := toBool_c (boolW true) (by decide) (by decide) w
  rw [show toBool (boolW true) = true from by decide, show (Go.Proofs.YtgmimmdojkoppaaGreatDoor.W.cls (boolW true) == 4) = true from by decide] at this
  exact this
theorem unboxBool_true (W : World) : Calls Tryz.prog 46 #[.int .u64 (boolW true)] W fun e w' => e = .returned (.agg #[.int .i64 1, .int .i64 1, .int .u64 0, .string ⟨#[]⟩, .int .u64 0]) ∧ Below W.heap.size W w' := by
  have hB : ∀ c, Below W.heap.size W (W.alloc (.cells c 47)) := fun c => (Below.refl _ W).alloc (Nat.le_refl _) _
  generalize hn : boolW true = n
  have cc := toB_true
  rw [hn] at cc
  clear hn
  go_enter Tryz.func46, Tryz.ntmps46
  go_wp2_with (go_at_call 90; (with_reducible refine (cc _).mono ?_); rintro e w' ⟨rfl, hw⟩; (have hw' := hw.symm); subst hw'; clear hw)
  exact bodyPost_ret (v := .agg #[.int .i64 1, .int .i64 1, .int .u64 0, .string ⟨#[]⟩, .int .u64 0]) (by simp [results, Tryz.results46, go_sem]) rfl ⟨rfl, hB _⟩
set_option maxRecDepth 100000 in
theorem unbox_true (hp : Value) (W : World) : Calls Tryz.prog 18 #[hp, .int .u64 (boolW true)] W fun e w' => e = .returned (.tuple #[.agg #[.int .i64 1, .int .i64 1, .int .u64 0, .string ⟨#[]⟩, .int .u64 0], .int .i64 0]) ∧ Below W.heap.size W w' := by
  have hB1 : Below W.heap.size W (W.alloc (.cells #[.int .i64 0, .int .i64 0, .int .u64 0, .string ⟨#[]⟩, .int .u64 0] 47)) := (Below.refl _ W).alloc (Nat.le_refl _) _
  have f1 := World.alloc_heap_new W (.cells #[.int .i64 0, .int .i64 0, .int .u64 0, .string ⟨#[]⟩, .int .u64 0] 47)
  have cc := fun W => class_c (boolW true) (by decide) (by decide) W
  rw [show Go.Proofs.YtgmimmdojkoppaaGreatDoor.W.cls (boolW true) = 4 from by decide] at cc
  have cu := fun W => unboxBool_true W
  generalize boolW true = n at *
  go_enter Tryz.func18, Tryz.ntmps18
  go_upto_region 1 with fail
  have kp := hid (show ∀ w4, Below (W.alloc (.cells #[.int .i64 0, .int .i64 0, .int .u64 0, .string ⟨#[]⟩, .int .u64 0] 47)).heap.size (W.alloc (.cells #[.int .i64 0, .int .i64 0, .int .u64 0, .string ⟨#[]⟩, .int .u64 0] 47)) w4 → w4.heap[W.heap.size]? = some (.cells #[.int .i64 0, .int .i64 0, .int .u64 0, .string ⟨#[]⟩, .int .u64 0] 47 (0, 0)) ∧ Below W.heap.size W w4 from fun w4 hB4 => ⟨(hB4.block _ (by rw [World.size_alloc]; exact Nat.lt_succ_self _)).trans f1, hB1.trans (hB4.mono hB1.size)⟩)
  clear f1 hB1
  generalize W.alloc (.cells #[.int .i64 0, .int .i64 0, .int .u64 0, .string ⟨#[]⟩, .int .u64 0] 47) = W1 at *
  go_wp2_with (first | (go_at_call 45; (with_reducible refine (cc _).mono ?_); rintro e w' ⟨rfl, hw⟩; (have hw' := hw.symm); subst hw'; clear hw) | (go_at_call 46; (with_reducible refine (cu _).mono ?_); rintro e W2 ⟨rfl, hB2⟩; (obtain ⟨f2, hB3⟩ := kp.out W2 hB2); (have eR := fun j => cell_of_row _ W.heap.size j _ _ _ f2); (have zR := (fun j => by simp only [World.frozen?, f2]; simp : ∀ j, W2.frozen? ⟨W.heap.size, j, none⟩ = false)); (have FR := hid f2); (have HB := hid hB3); clear f2 hB3 hB2 kp))
  refine bodyPost_ret (val_ret2 rfl _ _ W.heap.size _ _ _ _ _ (0, 0) rfl (five_set FR.out _ _ _ _ _)) rfl ?_
  exact ⟨rfl, five_below HB.out (Nat.le_refl _) _ _ _ _ _⟩
theorem toB_false (w : World) : Calls Tryz.prog 90 #[.int .u64 (boolW false)] w fun e w' => e = .returned (.tuple #[.bool false, .bool true]) ∧ w' = w := by
  have := toBool_c (boolW false) (by decide) (by decide) w
  rw [show toBool (boolW false) = false from by decide, show (Go.Proofs.YtgmimmdojkoppaaGreatDoor.W.cls (boolW false) == 4) = true from by decide] at this
  exact this
theorem unboxBool_false (W : World) : Calls Tryz.prog 46 #[.int .u64 (boolW false)] W fun e w' => e = .returned (.agg #[.int .i64 1, .int .i64 0, .int .u64 0, .string ⟨#[]⟩, .int .u64 0]) ∧ Below W.heap.size W w' := by
  have hB : ∀ c, Below W.heap.size W (W.alloc (.cells c 47)) := fun c => (Below.refl _ W).alloc (Nat.le_refl _) _
  generalize hn : boolW false = n
  have cc := toB_false
  rw [hn] at cc
  clear hn
  go_enter Tryz.func46, Tryz.ntmps46
  go_wp2_with (go_at_call 90; (with_reducible refine (cc _).mono ?_); rintro e w' ⟨rfl, hw⟩; (have hw' := hw.symm); subst hw'; clear hw)
  exact bodyPost_ret (v := .agg #[.int .i64 1, .int .i64 0, .int .u64 0, .string ⟨#[]⟩, .int .u64 0]) (by simp [results, Tryz.results46, go_sem]) rfl ⟨rfl, hB _⟩
set_option maxRecDepth 100000 in
theorem unbox_false (hp : Value) (W : World) : Calls Tryz.prog 18 #[hp, .int .u64 (boolW false)] W fun e w' => e = .returned (.tuple #[.agg #[.int .i64 1, .int .i64 0, .int .u64 0, .string ⟨#[]⟩, .int .u64 0], .int .i64 0]) ∧ Below W.heap.size W w' := by
  have hB1 : Below W.heap.size W (W.alloc (.cells #[.int .i64 0, .int .i64 0, .int .u64 0, .string ⟨#[]⟩, .int .u64 0] 47)) := (Below.refl _ W).alloc (Nat.le_refl _) _
  have f1 := World.alloc_heap_new W (.cells #[.int .i64 0, .int .i64 0, .int .u64 0, .string ⟨#[]⟩, .int .u64 0] 47)
  have cc := fun W => class_c (boolW false) (by decide) (by decide) W
  rw [show Go.Proofs.YtgmimmdojkoppaaGreatDoor.W.cls (boolW false) = 4 from by decide] at cc
  have cu := fun W => unboxBool_false W
  generalize boolW false = n at *
  go_enter Tryz.func18, Tryz.ntmps18
  go_upto_region 1 with fail
  have kp := hid (show ∀ w4, Below (W.alloc (.cells #[.int .i64 0, .int .i64 0, .int .u64 0, .string ⟨#[]⟩, .int .u64 0] 47)).heap.size (W.alloc (.cells #[.int .i64 0, .int .i64 0, .int .u64 0, .string ⟨#[]⟩, .int .u64 0] 47)) w4 → w4.heap[W.heap.size]? = some (.cells #[.int .i64 0, .int .i64 0, .int .u64 0, .string ⟨#[]⟩, .int .u64 0] 47 (0, 0)) ∧ Below W.heap.size W w4 from fun w4 hB4 => ⟨(hB4.block _ (by rw [World.size_alloc]; exact Nat.lt_succ_self _)).trans f1, hB1.trans (hB4.mono hB1.size)⟩)
  clear f1 hB1
  generalize W.alloc (.cells #[.int .i64 0, .int .i64 0, .int .u64 0, .string ⟨#[]⟩, .int .u64 0] 47) = W1 at *
  go_wp2_with (first | (go_at_call 45; (with_reducible refine (cc _).mono ?_); rintro e w' ⟨rfl, hw⟩; (have hw' := hw.symm); subst hw'; clear hw) | (go_at_call 46; (with_reducible refine (cu _).mono ?_); rintro e W2 ⟨rfl, hB2⟩; (obtain ⟨f2, hB3⟩ := kp.out W2 hB2); (have eR := fun j => cell_of_row _ W.heap.size j _ _ _ f2); (have zR := (fun j => by simp only [World.frozen?, f2]; simp : ∀ j, W2.frozen? ⟨W.heap.size, j, none⟩ = false)); (have FR := hid f2); (have HB := hid hB3); clear f2 hB3 hB2 kp))
  refine bodyPost_ret (val_ret2 rfl _ _ W.heap.size _ _ _ _ _ (0, 0) rfl (five_set FR.out _ _ _ _ _)) rfl ?_
  exact ⟨rfl, five_below HB.out (Nat.le_refl _) _ _ _ _ _⟩
def bI (b : Bool) : Int := if b = true then 1 else 0
theorem unbox_b (b : Bool) (x : Nat) (hx : (x : Int) = boolW b) (hp : Value) (W : World) : Calls Tryz.prog 18 #[hp, .int .u64 (x : Nat)] W fun e w' => e = .returned (.tuple #[.agg #[.int .i64 1, .int .i64 (bI b), .int .u64 0, .string ⟨#[]⟩, .int .u64 0], .int .i64 0]) ∧ Below W.heap.size W w' := by
  rw [hx]
  cases b
  · exact unbox_false hp W
  · exact unbox_true hp W
section
variable {W : World} {hb vb : Nat} {vw vr : Value}
end
end Go.Proofs.YtgmimmdojkoppaaGreatDoor.W.Nu
