import Derived.Test.YthgcdohndchdkaaGreatDoorO8aJ
/- Truths in words: Unbox, not. -/
namespace Go.Proofs.YthgcdohndchdkaaGreatDoor.W.Nu
open Go.ChangeShapes Go.WideShapes Go.RowKit Go.Shelf
set_option linter.unusedVariables false
theorem toB_true (w : World) : Calls Tryz.prog 80 #[.int .u64 (boolW true)] w fun e w' => e = .returned (.tuple #[.bool true, .bool true]) ∧ w' = w := by
  have := toBool_c (boolW true) (by decide) (by decide) w
  rw [show toBool (boolW true) = true from by decide, show (Go.Proofs.YthgcdohndchdkaaGreatDoor.W.cls (boolW true) == 4) = true from by decide] at this
  exact this
theorem unboxBool_true (W : World) : Calls Tryz.prog 35 #[.int .u64 (boolW true)] W fun e w' => e = .returned (.agg #[.int .i64 1, .int .i64 1, .int .u64 0, .string ⟨#[]⟩, .int .u64 0]) ∧ Below W.heap.size W w' := by
  have hB : ∀ c, Below W.heap.size W (W.alloc (.cells c 30)) := fun c => (Below.refl _ W).alloc (Nat.le_refl _) _
  generalize hn : boolW true = n
  have cc := toB_true
  rw [hn] at cc
  clear hn
  go_enter Tryz.func35, Tryz.ntmps35
  go_wp2_with (go_at_call 80; (with_reducible refine (cc _).mono ?_); rintro e w' ⟨rfl, hw⟩; (have hw' := hw.symm); subst hw'; clear hw)
  exact bodyPost_ret (v := .agg #[.int .i64 1, .int .i64 1, .int .u64 0, .string ⟨#[]⟩, .int .u64 0]) (by simp [results, Tryz.results35, go_sem]) rfl ⟨rfl, hB _⟩
set_option maxRecDepth 100000 in
theorem unbox_true (hp : Value) (W : World) : Calls Tryz.prog 18 #[hp, .int .u64 (boolW true)] W fun e w' => e = .returned (.tuple #[.agg #[.int .i64 1, .int .i64 1, .int .u64 0, .string ⟨#[]⟩, .int .u64 0], .int .i64 0]) ∧ Below W.heap.size W w' := by
  have hB1 : Below W.heap.size W (W.alloc (.cells #[.int .i64 0, .int .i64 0, .int .u64 0, .string ⟨#[]⟩, .int .u64 0] 30)) := (Below.refl _ W).alloc (Nat.le_refl _) _
  have f1 := World.alloc_heap_new W (.cells #[.int .i64 0, .int .i64 0, .int .u64 0, .string ⟨#[]⟩, .int .u64 0] 30)
  have cc := fun W => class_c (boolW true) (by decide) (by decide) W
  rw [show Go.Proofs.YthgcdohndchdkaaGreatDoor.W.cls (boolW true) = 4 from by decide] at cc
  have cu := fun W => unboxBool_true W
  generalize boolW true = n at *
  go_enter Tryz.func18, Tryz.ntmps18
  go_upto_region 1 with fail
  have kp := hid (show ∀ w4, Below (W.alloc (.cells #[.int .i64 0, .int .i64 0, .int .u64 0, .string ⟨#[]⟩, .int .u64 0] 30)).heap.size (W.alloc (.cells #[.int .i64 0, .int .i64 0, .int .u64 0, .string ⟨#[]⟩, .int .u64 0] 30)) w4 → w4.heap[W.heap.size]? = some (.cells #[.int .i64 0, .int .i64 0, .int .u64 0, .string ⟨#[]⟩, .int .u64 0] 30 (0, 0)) ∧ Below W.heap.size W w4 from fun w4 hB4 => ⟨(hB4.block _ (by rw [World.size_alloc]; exact Nat.lt_succ_self _)).trans f1, hB1.trans (hB4.mono hB1.size)⟩)
  clear f1 hB1
  generalize W.alloc (.cells #[.int .i64 0, .int .i64 0, .int .u64 0, .string ⟨#[]⟩, .int .u64 0] 30) = W1 at *
  go_wp2_with (first | (go_at_call 34; (with_reducible refine (cc _).mono ?_); rintro e w' ⟨rfl, hw⟩; (have hw' := hw.symm); subst hw'; clear hw) | (go_at_call 35; (with_reducible refine (cu _).mono ?_); rintro e W2 ⟨rfl, hB2⟩; (obtain ⟨f2, hB3⟩ := kp.out W2 hB2); (have eR := fun j => cell_of_row _ W.heap.size j _ _ _ f2); (have zR := (fun j => by simp only [World.frozen?, f2]; simp : ∀ j, W2.frozen? ⟨W.heap.size, j, none⟩ = false)); (have FR := hid f2); (have HB := hid hB3); clear f2 hB3 hB2 kp))
  refine bodyPost_ret (val_ret2 rfl _ _ W.heap.size _ _ _ _ _ (0, 0) rfl (five_set FR.out _ _ _ _ _)) rfl ?_
  exact ⟨rfl, five_below HB.out (Nat.le_refl _) _ _ _ _ _⟩
theorem toB_false (w : World) : Calls Tryz.prog 80 #[.int .u64 (boolW false)] w fun e w' => e = .returned (.tuple #[.bool false, .bool true]) ∧ w' = w := by
  have := toBool_c (boolW false) (by decide) (by decide) w
  rw [show toBool (boolW false) = false from by decide, show (Go.Proofs.YthgcdohndchdkaaGreatDoor.W.cls (boolW false) == 4) = true from by decide] at this
  exact this
theorem unboxBool_false (W : World) : Calls Tryz.prog 35 #[.int .u64 (boolW false)] W fun e w' => e = .returned (.agg #[.int .i64 1, .int .i64 0, .int .u64 0, .string ⟨#[]⟩, .int .u64 0]) ∧ Below W.heap.size W w' := by
  have hB : ∀ c, Below W.heap.size W (W.alloc (.cells c 30)) := fun c => (Below.refl _ W).alloc (Nat.le_refl _) _
  generalize hn : boolW false = n
  have cc := toB_false
  rw [hn] at cc
  clear hn
  go_enter Tryz.func35, Tryz.ntmps35
  go_wp2_with (go_at_call 80; (with_reducible refine (cc _).mono ?_); rintro e w' ⟨rfl, hw⟩; (have hw' := hw.symm); subst hw'; clear hw)
  exact bodyPost_ret (v := .agg #[.int .i64 1, .int .i64 0, .int .u64 0, .string ⟨#[]⟩, .int .u64 0]) (by simp [results, Tryz.results35, go_sem]) rfl ⟨rfl, hB _⟩
set_option maxRecDepth 100000 in
theorem unbox_false (hp : Value) (W : World) : Calls Tryz.prog 18 #[hp, .int .u64 (boolW false)] W fun e w' => e = .returned (.tuple #[.agg #[.int .i64 1, .int .i64 0, .int .u64 0, .string ⟨#[]⟩, .int .u64 0], .int .i64 0]) ∧ Below W.heap.size W w' := by
  have hB1 : Below W.heap.size W (W.alloc (.cells #[.int .i64 0, .int .i64 0, .int .u64 0, .string ⟨#[]⟩, .int .u64 0] 30)) := (Below.refl _ W).alloc (Nat.le_refl _) _
  have f1 := World.alloc_heap_new W (.cells #[.int .i64 0, .int .i64 0, .int .u64 0, .string ⟨#[]⟩, .int .u64 0] 30)
  have cc := fun W => class_c (boolW false) (by decide) (by decide) W
  rw [show Go.Proofs.YthgcdohndchdkaaGreatDoor.W.cls (boolW false) = 4 from by decide] at cc
  have cu := fun W => unboxBool_false W
  generalize boolW false = n at *
  go_enter Tryz.func18, Tryz.ntmps18
  go_upto_region 1 with fail
  have kp := hid (show ∀ w4, Below (W.alloc (.cells #[.int .i64 0, .int .i64 0, .int .u64 0, .string ⟨#[]⟩, .int .u64 0] 30)).heap.size (W.alloc (.cells #[.int .i64 0, .int .i64 0, .int .u64 0, .string ⟨#[]⟩, .int .u64 0] 30)) w4 → w4.heap[W.heap.size]? = some (.cells #[.int .i64 0, .int .i64 0, .int .u64 0, .string ⟨#[]⟩, .int .u64 0] 30 (0, 0)) ∧ Below W.heap.size W w4 from fun w4 hB4 => ⟨(hB4.block _ (by rw [World.size_alloc]; exact Nat.lt_succ_self _)).trans f1, hB1.trans (hB4.mono hB1.size)⟩)
  clear f1 hB1
  generalize W.alloc (.cells #[.int .i64 0, .int .i64 0, .int .u64 0, .string ⟨#[]⟩, .int .u64 0] 30) = W1 at *
  go_wp2_with (first | (go_at_call 34; (with_reducible refine (cc _).mono ?_); rintro e w' ⟨rfl, hw⟩; (have hw' := hw.symm); subst hw'; clear hw) | (go_at_call 35; (with_reducible refine (cu _).mono ?_); rintro e W2 ⟨rfl, hB2⟩; (obtain ⟨f2, hB3⟩ := kp.out W2 hB2); (have eR := fun j => cell_of_row _ W.heap.size j _ _ _ f2); (have zR := (fun j => by simp only [World.frozen?, f2]; simp : ∀ j, W2.frozen? ⟨W.heap.size, j, none⟩ = false)); (have FR := hid f2); (have HB := hid hB3); clear f2 hB3 hB2 kp))
  refine bodyPost_ret (val_ret2 rfl _ _ W.heap.size _ _ _ _ _ (0, 0) rfl (five_set FR.out _ _ _ _ _)) rfl ?_
  exact ⟨rfl, five_below HB.out (Nat.le_refl _) _ _ _ _ _⟩
def bI (b : Bool) : Int := if b = true then 1 else 0
theorem unbox_b (b : Bool) (x : Nat) (hx : (x : Int) = boolW b) (hp : Value) (W : World) : Calls Tryz.prog 18 #[hp, .int .u64 (x : Nat)] W fun e w' => e = .returned (.tuple #[.agg #[.int .i64 1, .int .i64 (bI b), .int .u64 0, .string ⟨#[]⟩, .int .u64 0], .int .i64 0]) ∧ Below W.heap.size W w' := by
  rw [hx]
  cases b
  · exact unbox_false hp W
  · exact unbox_true hp W
theorem eg_other : ∀ args w, (callFunc 58 args).run Tryz.prog w = .ok (.enter 58 args) w := enters_of Tryz.func58 (by kernel_rfl) rfl
theorem unary_not (W : World) : Calls Tryz.prog 29 #[.string ⟨#[110, 111, 116]⟩] W fun e w' => e = .returned (.func (.func 58) #[] #[]) ∧ Below W.heap.size W w' := by
  go_enter Tryz.func29, Tryz.ntmps29
  go_wp2
  go_ret
  exact ⟨rfl, Below.refl _ _⟩
section
variable {W : World} {hb vb : Nat} {vw vr : Value}
set_option maxRecDepth 100000 in
theorem other_c (b : Bool) (hv : ∀ k, W.cell? ⟨vb, k, none⟩ = #[.int .i64 1, .int .i64 (bI b), .int .u64 0, .string ⟨#[]⟩, .int .u64 0][k]?) : Calls Tryz.prog 58 #[.agg #[.pointer (some ⟨hb, 0, none⟩), vw, .slice (some ⟨vb, 0, none⟩) 1 1, vr]] W fun e w' => e = .returned (.tuple #[.int .u64 (boolW (!b)), .int .i64 0]) ∧ Below W.heap.size W w' := by
  have hB1 : Below W.heap.size W (W.alloc (.cells #[.pointer (some ⟨hb, 0, none⟩), vw, .slice (some ⟨vb, 0, none⟩) 1 1, vr] 103)) := (Below.refl _ W).alloc (Nat.le_refl _) _
  have e1 := World.cell?_alloc_new W #[.pointer (some ⟨hb, 0, none⟩), vw, .slice (some ⟨vb, 0, none⟩) 1 1, vr] 103
  have vl : vb < W.heap.size := cell_lt (hv 0)
  have hn : (bI b == 0) = !b := by cases b <;> decide
  have cF := fun w => fromBool_c (!b) w
  go_enter Tryz.func58, Tryz.ntmps58
  go_upto_region 1 with fail
  generalize W.alloc (.cells #[.pointer (some ⟨hb, 0, none⟩), vw, .slice (some ⟨vb, 0, none⟩) 1 1, vr] 103) = W1 at *
  have hv1 : ∀ k, W1.cell? ⟨vb, k, none⟩ = #[.int .i64 1, .int .i64 (bI b), .int .u64 0, .string ⟨#[]⟩, .int .u64 0][k]? := fun k => by rw [hB1.cell (p := ⟨vb, k, none⟩) vl]; exact hv k
  have hB2 : Below W1.heap.size W1 (W1.alloc (.cells #[.int .i64 0] 3)) := (Below.refl _ W1).alloc (Nat.le_refl _) _
  have e2 := World.cell?_alloc_new W1 #[.int .i64 0] 3
  have cA := are1_c _ hb vb W1.heap.size 1 vw vr 1 1 (by decide) (by decide) (e2 0) (cell_keep hB2 (hv1 0))
  rw [show ((1 : Int) == 1) = true from by decide] at cA
  have l1 : W.heap.size < W1.heap.size := cell_lt (e1 0)
  have KE := hid (show ∀ w', Below W1.heap.size W1 w' → (∀ k, w'.cell? ⟨W.heap.size, k, none⟩ = #[.pointer (some ⟨hb, 0, none⟩), vw, .slice (some ⟨vb, 0, none⟩) 1 1, vr][k]?) ∧ (∀ k, w'.cell? ⟨vb, k, none⟩ = #[.int .i64 1, .int .i64 (bI b), .int .u64 0, .string ⟨#[]⟩, .int .u64 0][k]?) from fun w' hB => ⟨fun k => by rw [hB.cell (p := ⟨W.heap.size, k, none⟩) l1]; exact e1 k, fun k => by rw [hB.cell (p := ⟨vb, k, none⟩) (by show vb < _; omega)]; exact hv1 k⟩)
  have H1 := hid hB1
  have H2 := hid hB2
  clear hv hv1 hB1 hB2 e2 vl l1
  go_upto_region 3 with (go_at_call 93; (with_reducible refine cA.mono ?_); rintro e W2 ⟨rfl, hB3⟩; clear cA)
  have hB4 := H2.out.trans (hB3.mono H2.out.size)
  obtain ⟨eC, eV⟩ := KE.out W2 hB4
  have HB := hid (H1.out.trans (hB4.mono H1.out.size))
  clear hB3 hB4 e1
  go_wp2_with (go_at_call 22; (with_reducible refine (cF _).mono ?_); rintro e w' ⟨rfl, hw⟩; (have hw' := hw.symm); subst hw'; clear hw)
  go_ret2
  exact ⟨rfl, HB.out⟩
end
theorem un_not (W : World) (hb x : Nat) (b : Bool) (hx : (x : Int) = boolW b) (vr : Value) (rs : List Nat) (hr : WordsAt W vr rs) (hl : rs.length ≤ 999000) : Calls Tryz.prog 10 #[.pointer (some ⟨hb, 0, none⟩), .string ⟨#[110, 111, 116]⟩, .int .u64 (x : Nat), vr] W fun e w' => e = .returned (.tuple #[.int .u64 (boolW (!b)), .int .i64 0]) ∧ Below W.heap.size W w' := by
  have hlt : x < 18446744073709551616 := by have : boolW b < 18446744073709551616 := by cases b <;> decide
                                            omega
  refine Unary_g W hb _ x _ eg_other vr rs hr hl 1 (bI b) 0 0 ⟨#[]⟩ hlt (unary_not W) (fun w' h => unbox_b b x hx _ w') (by rintro e w' ⟨rfl, _⟩; exact ⟨_, _, rfl⟩) (fun w' wb vb vr' h hw0 hv hw => ?_)
  refine (other_c b hv).mono ?_
  rintro e w3 ⟨rfl, h3⟩
  exact ⟨rfl, h.trans (h3.mono h.size)⟩
end Go.Proofs.YthgcdohndchdkaaGreatDoor.W.Nu
