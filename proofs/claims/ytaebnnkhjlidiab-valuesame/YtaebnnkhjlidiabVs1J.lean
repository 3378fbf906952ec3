import Derived.Test.YtaebnnkhjlidiabBase26
import Derived.Test.YtaebnnkhjlidiabV7eJ
import Derived.Test.YtaebnnkhjlidiabBase28
import Derived.Test.YtaebnnkhjlidiabBase23
/- Unbox of nil, of truths, of rows. (The truths as in O8b, the rows as V7f's strings.) -/
namespace Go.Proofs.Ytaebnnkhjlidiab.W
open Go.ChangeShapes Go.WideShapes Go.RowKit Go.Shelf
set_option linter.unusedVariables false
theorem toB_true (w : World) : Calls Try.prog 69 #[.int .u64 (boolW true)] w fun e w' => e = .returned (.tuple #[.bool true, .bool true]) ∧ w' = w := by
  have := toBool_c (boolW true) (by decide) (by decide) w
  rw [show toBool (boolW true) = true from by decide, show (cls (boolW true) == 4) = true from by decide] at this
  exact this
theorem unboxBool_true (W : World) : Calls Try.prog 38 #[.int .u64 (boolW true)] W fun e w' => e = .returned (.agg #[.int .i64 1, .int .i64 1, .int .u64 0, .string ⟨#[]⟩, .int .u64 0]) ∧ Below W.heap.size W w' := by
  have hB : ∀ c, Below W.heap.size W (W.alloc (.cells c 40)) := fun c => (Below.refl _ W).alloc (Nat.le_refl _) _
  generalize hn : boolW true = n
  have cc := toB_true
  rw [hn] at cc
  clear hn
  go_enter Try.func38, Try.ntmps38
  go_wp2_with (go_at_call 69; (with_reducible refine (cc _).mono ?_); rintro e w' ⟨rfl, hw⟩; (have hw' := hw.symm); subst hw'; clear hw)
  exact bodyPost_ret (v := .agg #[.int .i64 1, .int .i64 1, .int .u64 0, .string ⟨#[]⟩, .int .u64 0]) (by simp [results, Try.results38, go_sem]) rfl ⟨rfl, hB _⟩
set_option maxRecDepth 100000 in
theorem unbox_true (hp : Value) (W : World) : Calls Try.prog 14 #[hp, .int .u64 (boolW true)] W fun e w' => e = .returned (.tuple #[.agg #[.int .i64 1, .int .i64 1, .int .u64 0, .string ⟨#[]⟩, .int .u64 0], .int .i64 0]) ∧ Below W.heap.size W w' := by
  have hB1 : Below W.heap.size W (W.alloc (.cells #[.int .i64 0, .int .i64 0, .int .u64 0, .string ⟨#[]⟩, .int .u64 0] 40)) := (Below.refl _ W).alloc (Nat.le_refl _) _
  have f1 := World.alloc_heap_new W (.cells #[.int .i64 0, .int .i64 0, .int .u64 0, .string ⟨#[]⟩, .int .u64 0] 40)
  have cc := fun W => class_c (boolW true) (by decide) (by decide) W
  rw [show cls (boolW true) = 4 from by decide] at cc
  have cu := fun W => unboxBool_true W
  generalize boolW true = n at *
  go_enter Try.func14, Try.ntmps14
  go_upto_region 1 with fail
  have kp := hid (show ∀ w4, Below (W.alloc (.cells #[.int .i64 0, .int .i64 0, .int .u64 0, .string ⟨#[]⟩, .int .u64 0] 40)).heap.size (W.alloc (.cells #[.int .i64 0, .int .i64 0, .int .u64 0, .string ⟨#[]⟩, .int .u64 0] 40)) w4 → w4.heap[W.heap.size]? = some (.cells #[.int .i64 0, .int .i64 0, .int .u64 0, .string ⟨#[]⟩, .int .u64 0] 40 (0, 0)) ∧ Below W.heap.size W w4 from fun w4 hB4 => ⟨(hB4.block _ (by rw [World.size_alloc]; exact Nat.lt_succ_self _)).trans f1, hB1.trans (hB4.mono hB1.size)⟩)
  clear f1 hB1
  generalize W.alloc (.cells #[.int .i64 0, .int .i64 0, .int .u64 0, .string ⟨#[]⟩, .int .u64 0] 40) = W1 at *
  go_wp2_with (first | (go_at_call 37; (with_reducible refine (cc _).mono ?_); rintro e w' ⟨rfl, hw⟩; (have hw' := hw.symm); subst hw'; clear hw) | (go_at_call 38; (with_reducible refine (cu _).mono ?_); rintro e W2 ⟨rfl, hB2⟩; (obtain ⟨f2, hB3⟩ := kp.out W2 hB2); (have eR := fun j => cell_of_row _ W.heap.size j _ _ _ f2); (have zR := (fun j => by simp only [World.frozen?, f2]; simp : ∀ j, W2.frozen? ⟨W.heap.size, j, none⟩ = false)); (have FR := hid f2); (have HB := hid hB3); clear f2 hB3 hB2 kp))
  refine bodyPost_ret (val_ret2 rfl _ _ W.heap.size _ _ _ _ _ (0, 0) rfl (five_set FR.out _ _ _ _ _)) rfl ?_
  exact ⟨rfl, five_below HB.out (Nat.le_refl _) _ _ _ _ _⟩
theorem toB_false (w : World) : Calls Try.prog 69 #[.int .u64 (boolW false)] w fun e w' => e = .returned (.tuple #[.bool false, .bool true]) ∧ w' = w := by
  have := toBool_c (boolW false) (by decide) (by decide) w
  rw [show toBool (boolW false) = false from by decide, show (cls (boolW false) == 4) = true from by decide] at this
  exact this
theorem unboxBool_false (W : World) : Calls Try.prog 38 #[.int .u64 (boolW false)] W fun e w' => e = .returned (.agg #[.int .i64 1, .int .i64 0, .int .u64 0, .string ⟨#[]⟩, .int .u64 0]) ∧ Below W.heap.size W w' := by
  have hB : ∀ c, Below W.heap.size W (W.alloc (.cells c 40)) := fun c => (Below.refl _ W).alloc (Nat.le_refl _) _
  generalize hn : boolW false = n
  have cc := toB_false
  rw [hn] at cc
  clear hn
  go_enter Try.func38, Try.ntmps38
  go_wp2_with (go_at_call 69; (with_reducible refine (cc _).mono ?_); rintro e w' ⟨rfl, hw⟩; (have hw' := hw.symm); subst hw'; clear hw)
  exact bodyPost_ret (v := .agg #[.int .i64 1, .int .i64 0, .int .u64 0, .string ⟨#[]⟩, .int .u64 0]) (by simp [results, Try.results38, go_sem]) rfl ⟨rfl, hB _⟩
set_option maxRecDepth 100000 in
theorem unbox_false (hp : Value) (W : World) : Calls Try.prog 14 #[hp, .int .u64 (boolW false)] W fun e w' => e = .returned (.tuple #[.agg #[.int .i64 1, .int .i64 0, .int .u64 0, .string ⟨#[]⟩, .int .u64 0], .int .i64 0]) ∧ Below W.heap.size W w' := by
  have hB1 : Below W.heap.size W (W.alloc (.cells #[.int .i64 0, .int .i64 0, .int .u64 0, .string ⟨#[]⟩, .int .u64 0] 40)) := (Below.refl _ W).alloc (Nat.le_refl _) _
  have f1 := World.alloc_heap_new W (.cells #[.int .i64 0, .int .i64 0, .int .u64 0, .string ⟨#[]⟩, .int .u64 0] 40)
  have cc := fun W => class_c (boolW false) (by decide) (by decide) W
  rw [show cls (boolW false) = 4 from by decide] at cc
  have cu := fun W => unboxBool_false W
  generalize boolW false = n at *
  go_enter Try.func14, Try.ntmps14
  go_upto_region 1 with fail
  have kp := hid (show ∀ w4, Below (W.alloc (.cells #[.int .i64 0, .int .i64 0, .int .u64 0, .string ⟨#[]⟩, .int .u64 0] 40)).heap.size (W.alloc (.cells #[.int .i64 0, .int .i64 0, .int .u64 0, .string ⟨#[]⟩, .int .u64 0] 40)) w4 → w4.heap[W.heap.size]? = some (.cells #[.int .i64 0, .int .i64 0, .int .u64 0, .string ⟨#[]⟩, .int .u64 0] 40 (0, 0)) ∧ Below W.heap.size W w4 from fun w4 hB4 => ⟨(hB4.block _ (by rw [World.size_alloc]; exact Nat.lt_succ_self _)).trans f1, hB1.trans (hB4.mono hB1.size)⟩)
  clear f1 hB1
  generalize W.alloc (.cells #[.int .i64 0, .int .i64 0, .int .u64 0, .string ⟨#[]⟩, .int .u64 0] 40) = W1 at *
  go_wp2_with (first | (go_at_call 37; (with_reducible refine (cc _).mono ?_); rintro e w' ⟨rfl, hw⟩; (have hw' := hw.symm); subst hw'; clear hw) | (go_at_call 38; (with_reducible refine (cu _).mono ?_); rintro e W2 ⟨rfl, hB2⟩; (obtain ⟨f2, hB3⟩ := kp.out W2 hB2); (have eR := fun j => cell_of_row _ W.heap.size j _ _ _ f2); (have zR := (fun j => by simp only [World.frozen?, f2]; simp : ∀ j, W2.frozen? ⟨W.heap.size, j, none⟩ = false)); (have FR := hid f2); (have HB := hid hB3); clear f2 hB3 hB2 kp))
  refine bodyPost_ret (val_ret2 rfl _ _ W.heap.size _ _ _ _ _ (0, 0) rfl (five_set FR.out _ _ _ _ _)) rfl ?_
  exact ⟨rfl, five_below HB.out (Nat.le_refl _) _ _ _ _ _⟩
section
variable {W W' : World} {hb sb : Nat} {vc : Value} {T : Nat → Prop} {H : List (Option Hc)} {u h : Nat}
theorem unboxCell_row (g : HLay W hb sb vc T H u h) (w : Nat) (hw : w < 18446744073709551616) (id : Nat) (hi : hit H w = some id) (ws : List Nat) (hc : H[id]? = some (some (.row ws))) :
    Calls Try.prog 41 #[.pointer (some ⟨hb, 0, none⟩), .int .u64 w] W fun e w' => e = .returned (.tuple #[.agg #[.int .i64 9, .int .i64 0, .int .u64 0, .string ⟨#[]⟩, .int .u64 w], .int .i64 0]) ∧ Below W.heap.size W w' := by
  have hB1 : Below W.heap.size W (W.alloc (.cells #[.int .i64 0, .int .i64 0, .int .u64 0, .string ⟨#[]⟩, .int .u64 0] 40)) := (Below.refl _ W).alloc (Nat.le_refl _) _
  have hs1 : (W.alloc (.cells #[.int .i64 0, .int .i64 0, .int .u64 0, .string ⟨#[]⟩, .int .u64 0] 40)).heap.size = W.heap.size + 1 := World.size_alloc ..
  have f1 := World.alloc_heap_new W (.cells #[.int .i64 0, .int .i64 0, .int .u64 0, .string ⟨#[]⟩, .int .u64 0] 40)
  have cg := look_c (g.below hB1) w hw id hi (.row ws) hc
  simp only [Hc.cl] at cg
  generalize (((Hc.row ws).bytes.length : Nat) : Int) = bn at cg
  have kp : Hid (∀ w4, Below (W.alloc (.cells #[.int .i64 0, .int .i64 0, .int .u64 0, .string ⟨#[]⟩, .int .u64 0] 40)).heap.size (W.alloc (.cells #[.int .i64 0, .int .i64 0, .int .u64 0, .string ⟨#[]⟩, .int .u64 0] 40)) w4 → w4.heap[W.heap.size]? = some (.cells #[.int .i64 0, .int .i64 0, .int .u64 0, .string ⟨#[]⟩, .int .u64 0] 40) ∧ Below W.heap.size W w4 ∧ W.heap.size + 1 ≤ w4.heap.size) := by
    show ∀ w4, _
    intro w4 hB4
    exact ⟨(hB4.block _ (by omega)).trans f1, hB1.trans (hB4.mono hB1.size), by have := hB4.size; omega⟩
  clear g hc
  go_enter Try.func41, Try.ntmps41
  go_upto_region 1 with fail
  generalize W.alloc (.cells #[.int .i64 0, .int .i64 0, .int .u64 0, .string ⟨#[]⟩, .int .u64 0] 40) = W1 at *
  go_upto_region 2 with (go_at_call 63; (with_reducible refine cg.mono ?_); rintro e w4 ⟨rfl, hB4⟩; clear cg; (obtain ⟨fR, hBf, hz4⟩ := kp.out w4 hB4))
  have hB5 : Below w4.heap.size w4 (w4.alloc (.cells #[.int .i64 9, .bool false, .int .i64 0, .string ByteArray.empty, .slice none 0 0, .slice none 0 0, .int .u64 0, .int .i64 0, .int .i64 0] 32)) := (Below.refl _ w4).alloc (Nat.le_refl _) _
  have e5 := World.cell?_alloc_new w4 #[.int .i64 9, .bool false, .int .i64 0, .string ByteArray.empty, .slice none 0 0, .slice none 0 0, .int .u64 0, .int .i64 0, .int .i64 0] 32
  have d0 := e5 0
  simp only [List.getElem?_toArray, List.getElem?_cons_zero] at d0
  generalize w4.alloc (.cells #[.int .i64 9, .bool false, .int .i64 0, .string ByteArray.empty, .slice none 0 0, .slice none 0 0, .int .u64 0, .int .i64 0, .int .i64 0] 32) = W5 at *
  have f5 : W5.heap[W.heap.size]? = some (.cells #[.int .i64 0, .int .i64 0, .int .u64 0, .string ⟨#[]⟩, .int .u64 0] 40) := (hB5.block _ (by omega)).trans fR
  have hBe : Below W.heap.size W W5 := hBf.trans (hB5.mono hBf.size)
  have eR := fun j => cell_of_row W5 W.heap.size j _ _ _ f5
  have zR : ∀ j, W5.frozen? ⟨W.heap.size, j, none⟩ = false := fun j => by simp [World.frozen?, f5]
  have FR := hid f5
  clear f5 fR hB5 hBf hB4 e5 hz4
  go_wp2
  refine bodyPost_ret (val_ret2 rfl _ _ W.heap.size _ _ _ _ _ (0, 0) rfl (five_set FR.out _ _ _ _ _)) rfl ?_
  exact ⟨rfl, five_below hBe (Nat.le_refl _) _ _ _ _ _⟩
theorem unbox_row (g : HLay W hb sb vc T H u h) (w : Nat) (hw : w < 18446744073709551616) (hcl : cls (w : Int) = 6) (id : Nat) (hi : hit H w = some id) (ws : List Nat) (hc : H[id]? = some (some (.row ws))) :
    Calls Try.prog 14 #[.pointer (some ⟨hb, 0, none⟩), .int .u64 w] W fun e w' => e = .returned (.tuple #[.agg #[.int .i64 9, .int .i64 0, .int .u64 0, .string ⟨#[]⟩, .int .u64 w], .int .i64 0]) ∧ Below W.heap.size W w' := by
  have hB1 : Below W.heap.size W (W.alloc (.cells #[.int .i64 0, .int .i64 0, .int .u64 0, .string ⟨#[]⟩, .int .u64 0] 40)) := (Below.refl _ W).alloc (Nat.le_refl _) _
  have hs1 : (W.alloc (.cells #[.int .i64 0, .int .i64 0, .int .u64 0, .string ⟨#[]⟩, .int .u64 0] 40)).heap.size = W.heap.size + 1 := World.size_alloc ..
  have f1 := World.alloc_heap_new W (.cells #[.int .i64 0, .int .i64 0, .int .u64 0, .string ⟨#[]⟩, .int .u64 0] 40)
  have cc := fun W => class_c (w : Int) (by omega) (by omega) W
  rw [hcl] at cc
  have cu := unboxCell_row (g.below hB1) w hw id hi ws hc
  have kp : Hid (∀ w4, Below (W.alloc (.cells #[.int .i64 0, .int .i64 0, .int .u64 0, .string ⟨#[]⟩, .int .u64 0] 40)).heap.size (W.alloc (.cells #[.int .i64 0, .int .i64 0, .int .u64 0, .string ⟨#[]⟩, .int .u64 0] 40)) w4 → w4.heap[W.heap.size]? = some (.cells #[.int .i64 0, .int .i64 0, .int .u64 0, .string ⟨#[]⟩, .int .u64 0] 40) ∧ Below W.heap.size W w4) := by
    show ∀ w4, _
    intro w4 hB4
    exact ⟨(hB4.block _ (by omega)).trans f1, hB1.trans (hB4.mono hB1.size)⟩
  clear g hc hcl
  go_enter Try.func14, Try.ntmps14
  go_upto_region 1 with fail
  generalize W.alloc (.cells #[.int .i64 0, .int .i64 0, .int .u64 0, .string ⟨#[]⟩, .int .u64 0] 40) = W1 at *
  go_wp2_with (first | (go_at_call 37; (with_reducible refine (cc _).mono ?_); rintro e w' ⟨rfl, hw⟩; (have hw' := hw.symm); subst hw'; clear hw) | (go_at_call 41; (with_reducible refine cu.mono ?_); rintro e w4 ⟨rfl, hB4⟩; clear cu; (obtain ⟨fR, hBf⟩ := kp.out w4 hB4); (have eR := fun j => cell_of_row w4 W.heap.size j _ _ _ fR); (have zR := (fun j => by simp [World.frozen?, fR] : ∀ j, w4.frozen? ⟨W.heap.size, j, none⟩ = false)); (have FR := hid fR); clear fR))
  refine bodyPost_ret (val_ret2 rfl _ _ W.heap.size _ _ _ _ _ (0, 0) rfl (five_set FR.out _ _ _ _ _)) rfl ?_
  exact ⟨rfl, five_below hBf (Nat.le_refl _) _ _ _ _ _⟩
theorem unbox_nil (hp : Value) (W : World) :
    Calls Try.prog 14 #[hp, .int .u64 18444492273895866368] W fun e w' => e = .returned (.tuple #[.agg #[.int .i64 0, .int .i64 0, .int .u64 0, .string ⟨#[]⟩, .int .u64 0], .int .i64 0]) ∧ Below W.heap.size W w' := by
  (have hB1 : Below W.heap.size W (W.alloc (.cells #[.int .i64 0, .int .i64 0, .int .u64 0, .string ⟨#[]⟩, .int .u64 0] 40)) := (Below.refl _ W).alloc (Nat.le_refl _) _); (have hs1 : (W.alloc (.cells #[.int .i64 0, .int .i64 0, .int .u64 0, .string ⟨#[]⟩, .int .u64 0] 40)).heap.size = W.heap.size + 1 := World.size_alloc ..); (have f1 := World.alloc_heap_new W (.cells #[.int .i64 0, .int .i64 0, .int .u64 0, .string ⟨#[]⟩, .int .u64 0] 40))
  have cc := fun W => class_c 18444492273895866368 (by omega) (by omega) W
  rw [show cls 18444492273895866368 = 3 by decide] at cc
  go_enter Try.func14, Try.ntmps14
  go_upto_region 1 with fail
  have eR := fun j => cell_of_row _ W.heap.size j _ _ _ f1
  have zR : ∀ j, (W.alloc (.cells #[.int .i64 0, .int .i64 0, .int .u64 0, .string ⟨#[]⟩, .int .u64 0] 40)).frozen? ⟨W.heap.size, j, none⟩ = false := fun j => by simp only [World.frozen?, f1]; simp
  have FR := hid f1
  have HB := hid hB1
  clear f1 hB1 hs1
  generalize W.alloc (.cells #[.int .i64 0, .int .i64 0, .int .u64 0, .string ⟨#[]⟩, .int .u64 0] 40) = W1 at *
  go_wp2_with (go_at_call 37; (with_reducible refine (cc _).mono ?_); rintro e w' ⟨rfl, hw⟩; (have hw' := hw.symm); subst hw'; clear hw)
  refine bodyPost_ret (val_ret2 rfl _ _ W.heap.size _ _ _ _ _ (0, 0) rfl (five_set FR.out _ _ _ _ _)) rfl ?_
  exact ⟨rfl, five_below HB.out (Nat.le_refl _) _ _ _ _ _⟩
end
end Go.Proofs.Ytaebnnkhjlidiab.W
