import Derived.Test.YtbgabpgohkcahaaV7dJ
import Derived.Test.YtbgabpgohkcahaaH7mJ
import Derived.Test.YtbgabpgohkcahaaToTxtJ
/- Package value: Unbox, of a string in a cell; of what stands in a word. -/
namespace Go.Proofs.Ytbgabpgohkcahaa.W
open Go.ChangeShapes Go.WideShapes Go.RowKit Go.Shelf
set_option linter.unusedVariables false
section
variable {W W' : World} {hb sb : Nat} {vc : Value} {T : Nat → Prop} {H : List (Option Hc)} {u h : Nat}
theorem unboxCell_text (g : HLay W hb sb vc T H u h) (w : Nat) (hw : w < 18446744073709551616) (id : Nat) (hi : hit H w = some id) (t : ByteArray) (hc : H[id]? = some (some (.text (strB t)))) :
    Calls Try.prog 31 #[.pointer (some ⟨hb, 0, none⟩), .int .u64 w] W fun e w' => e = .returned (.tuple #[.agg #[.int .i64 4, .int .i64 0, .int .u64 0, .string t, .int .u64 0], .int .i64 0]) ∧ Below W.heap.size W w' := by
  have hB1 : Below W.heap.size W (W.alloc (.cells #[.int .i64 0, .int .i64 0, .int .u64 0, .string ⟨#[]⟩, .int .u64 0] 28)) := (Below.refl _ W).alloc (Nat.le_refl _) _
  have hs1 : (W.alloc (.cells #[.int .i64 0, .int .i64 0, .int .u64 0, .string ⟨#[]⟩, .int .u64 0] 28)).heap.size = W.heap.size + 1 := World.size_alloc ..
  have f1 := World.alloc_heap_new W (.cells #[.int .i64 0, .int .i64 0, .int .u64 0, .string ⟨#[]⟩, .int .u64 0] 28)
  have cg := get_text (g.below hB1) w hw id hi t hc
  have kp : Hid (∀ w4, Below (W.alloc (.cells #[.int .i64 0, .int .i64 0, .int .u64 0, .string ⟨#[]⟩, .int .u64 0] 28)).heap.size (W.alloc (.cells #[.int .i64 0, .int .i64 0, .int .u64 0, .string ⟨#[]⟩, .int .u64 0] 28)) w4 → w4.heap[W.heap.size]? = some (.cells #[.int .i64 0, .int .i64 0, .int .u64 0, .string ⟨#[]⟩, .int .u64 0] 28) ∧ Below W.heap.size W w4 ∧ W.heap.size + 1 ≤ w4.heap.size) := by
    show ∀ w4, _
    intro w4 hB4
    exact ⟨(hB4.block _ (by omega)).trans f1, hB1.trans (hB4.mono hB1.size), by have := hB4.size; omega⟩
  clear g hc
  go_enter Try.func31, Try.ntmps31
  go_upto_region 1 with fail
  generalize W.alloc (.cells #[.int .i64 0, .int .i64 0, .int .u64 0, .string ⟨#[]⟩, .int .u64 0] 28) = W1 at *
  go_upto_region 2 with (go_at_call 38; (with_reducible refine cg.mono ?_); rintro e w4 ⟨rfl, hB4⟩; clear cg; (obtain ⟨fR, hBf, hz4⟩ := kp.out w4 hB4))
  have hB5 : Below w4.heap.size w4 (w4.alloc (.cells #[.int .i64 4, .bool false, .int .i64 0, .string t, .slice none 0 0, .slice none 0 0, .int .u64 0, .int .i64 0, .int .i64 0] 43)) := (Below.refl _ w4).alloc (Nat.le_refl _) _
  have e5 := World.cell?_alloc_new w4 #[.int .i64 4, .bool false, .int .i64 0, .string t, .slice none 0 0, .slice none 0 0, .int .u64 0, .int .i64 0, .int .i64 0] 43
  have d0 := e5 0
  have d2 := e5 3
  simp only [List.getElem?_toArray, List.getElem?_cons_succ, List.getElem?_cons_zero] at d0 d2
  generalize w4.alloc (.cells #[.int .i64 4, .bool false, .int .i64 0, .string t, .slice none 0 0, .slice none 0 0, .int .u64 0, .int .i64 0, .int .i64 0] 43) = W5 at *
  have f5 : W5.heap[W.heap.size]? = some (.cells #[.int .i64 0, .int .i64 0, .int .u64 0, .string ⟨#[]⟩, .int .u64 0] 28) := (hB5.block _ (by omega)).trans fR
  have hBe : Below W.heap.size W W5 := hBf.trans (hB5.mono hBf.size)
  have eR := fun j => cell_of_row W5 W.heap.size j _ _ _ f5
  have zR : ∀ j, W5.frozen? ⟨W.heap.size, j, none⟩ = false := fun j => by simp [World.frozen?, f5]
  have FR := hid f5
  clear f5 fR hB5 hBf hB4 e5 hz4
  go_wp2
  refine bodyPost_ret (val_ret2 rfl _ _ W.heap.size _ _ _ _ _ (0, 0) rfl (five_set FR.out _ _ _ _ _)) rfl ?_
  exact ⟨rfl, five_below hBe (Nat.le_refl _) _ _ _ _ _⟩
theorem unbox_text (g : HLay W hb sb vc T H u h) (w : Nat) (hw : w < 18446744073709551616) (hcl : cls (w : Int) = 6) (id : Nat) (hi : hit H w = some id) (t : ByteArray) (hc : H[id]? = some (some (.text (strB t)))) :
    Calls Try.prog 9 #[.pointer (some ⟨hb, 0, none⟩), .int .u64 w] W fun e w' => e = .returned (.tuple #[.agg #[.int .i64 4, .int .i64 0, .int .u64 0, .string t, .int .u64 0], .int .i64 0]) ∧ Below W.heap.size W w' := by
  have hB1 : Below W.heap.size W (W.alloc (.cells #[.int .i64 0, .int .i64 0, .int .u64 0, .string ⟨#[]⟩, .int .u64 0] 28)) := (Below.refl _ W).alloc (Nat.le_refl _) _
  have hs1 : (W.alloc (.cells #[.int .i64 0, .int .i64 0, .int .u64 0, .string ⟨#[]⟩, .int .u64 0] 28)).heap.size = W.heap.size + 1 := World.size_alloc ..
  have f1 := World.alloc_heap_new W (.cells #[.int .i64 0, .int .i64 0, .int .u64 0, .string ⟨#[]⟩, .int .u64 0] 28)
  have cc := fun W => class_c (w : Int) (by omega) (by omega) W
  rw [hcl] at cc
  have cu := unboxCell_text (g.below hB1) w hw id hi t hc
  have kp : Hid (∀ w4, Below (W.alloc (.cells #[.int .i64 0, .int .i64 0, .int .u64 0, .string ⟨#[]⟩, .int .u64 0] 28)).heap.size (W.alloc (.cells #[.int .i64 0, .int .i64 0, .int .u64 0, .string ⟨#[]⟩, .int .u64 0] 28)) w4 → w4.heap[W.heap.size]? = some (.cells #[.int .i64 0, .int .i64 0, .int .u64 0, .string ⟨#[]⟩, .int .u64 0] 28) ∧ Below W.heap.size W w4) := by
    show ∀ w4, _
    intro w4 hB4
    exact ⟨(hB4.block _ (by omega)).trans f1, hB1.trans (hB4.mono hB1.size)⟩
  clear g hc hcl
  go_enter Try.func9, Try.ntmps9
  go_upto_region 1 with fail
  generalize W.alloc (.cells #[.int .i64 0, .int .i64 0, .int .u64 0, .string ⟨#[]⟩, .int .u64 0] 28) = W1 at *
  go_wp2_with (first | (go_at_call 27; (with_reducible refine (cc _).mono ?_); rintro e w' ⟨rfl, hw⟩; (have hw' := hw.symm); subst hw'; clear hw) | (go_at_call 31; (with_reducible refine cu.mono ?_); rintro e w4 ⟨rfl, hB4⟩; clear cu; (obtain ⟨fR, hBf⟩ := kp.out w4 hB4); (have eR := fun j => cell_of_row w4 W.heap.size j _ _ _ fR); (have zR := (fun j => by simp [World.frozen?, fR] : ∀ j, w4.frozen? ⟨W.heap.size, j, none⟩ = false)); (have FR := hid fR); clear fR))
  refine bodyPost_ret (val_ret2 rfl _ _ W.heap.size _ _ _ _ _ (0, 0) rfl (five_set FR.out _ _ _ _ _)) rfl ?_
  exact ⟨rfl, five_below hBf (Nat.le_refl _) _ _ _ _ _⟩
theorem unbox_stext (t : ByteArray) (ht : t.size ≤ 5) (hp : Value) (W : World) :
    Calls Try.prog 9 #[hp, .int .u64 (txtW t)] W fun e w' => e = .returned (.tuple #[.agg #[.int .i64 4, .int .i64 0, .int .u64 0, .string t, .int .u64 0], .int .i64 0]) ∧ Below W.heap.size W w' := by
  (have hB1 : Below W.heap.size W (W.alloc (.cells #[.int .i64 0, .int .i64 0, .int .u64 0, .string ⟨#[]⟩, .int .u64 0] 28)) := (Below.refl _ W).alloc (Nat.le_refl _) _); (have hs1 : (W.alloc (.cells #[.int .i64 0, .int .i64 0, .int .u64 0, .string ⟨#[]⟩, .int .u64 0] 28)).heap.size = W.heap.size + 1 := World.size_alloc ..); (have f1 := World.alloc_heap_new W (.cells #[.int .i64 0, .int .i64 0, .int .u64 0, .string ⟨#[]⟩, .int .u64 0] 28))
  have hbd := cls_is5 _ (txtW_cls t ht)
  have cc := fun W => class_c (txtW t) (by omega) (by omega) W
  rw [txtW_cls t ht] at cc
  have ct := fun W => toText_c (txtW t) (by omega) (by omega) W
  rw [toTxt_txtW t ht, txtW_cls t ht] at ct
  generalize txtW t = x at *
  have kp : Hid (∀ w4, Below (W.alloc (.cells #[.int .i64 0, .int .i64 0, .int .u64 0, .string ⟨#[]⟩, .int .u64 0] 28)).heap.size (W.alloc (.cells #[.int .i64 0, .int .i64 0, .int .u64 0, .string ⟨#[]⟩, .int .u64 0] 28)) w4 → w4.heap[W.heap.size]? = some (.cells #[.int .i64 0, .int .i64 0, .int .u64 0, .string ⟨#[]⟩, .int .u64 0] 28) ∧ Below W.heap.size W w4) := by
    show ∀ w4, _
    intro w4 hB4
    exact ⟨(hB4.block _ (by omega)).trans f1, hB1.trans (hB4.mono hB1.size)⟩
  clear hbd
  go_enter Try.func9, Try.ntmps9
  go_upto_region 1 with fail
  generalize W.alloc (.cells #[.int .i64 0, .int .i64 0, .int .u64 0, .string ⟨#[]⟩, .int .u64 0] 28) = W1 at *
  go_wp2_with (first | (go_at_call 27; (with_reducible refine (cc _).mono ?_); rintro e w' ⟨rfl, hw⟩; (have hw' := hw.symm); subst hw'; clear hw) | (go_at_call 30; (with_reducible refine (ct _).mono ?_); rintro e w4 ⟨rfl, hB4⟩; clear ct; (obtain ⟨fR, hBf⟩ := kp.out w4 hB4); (have eR := fun j => cell_of_row w4 W.heap.size j _ _ _ fR); (have zR := (fun j => by simp [World.frozen?, fR] : ∀ j, w4.frozen? ⟨W.heap.size, j, none⟩ = false)); (have FR := hid fR); clear fR))
  refine bodyPost_ret (val_ret2 rfl _ _ W.heap.size _ _ _ _ _ (0, 0) rfl (five_set FR.out _ _ _ _ _)) rfl ?_
  exact ⟨rfl, five_below hBf (Nat.le_refl _) _ _ _ _ _⟩
theorem unbox_sint (i : Int) (hs : smallB i = true) (hp : Value) (W : World) :
    Calls Try.prog 9 #[hp, .int .u64 (intW i)] W fun e w' => e = .returned (.tuple #[.agg #[.int .i64 2, .int .i64 i, .int .u64 0, .string ⟨#[]⟩, .int .u64 0], .int .i64 0]) ∧ Below W.heap.size W w' := by
  (have hB1 : Below W.heap.size W (W.alloc (.cells #[.int .i64 0, .int .i64 0, .int .u64 0, .string ⟨#[]⟩, .int .u64 0] 28)) := (Below.refl _ W).alloc (Nat.le_refl _) _); (have hs1 : (W.alloc (.cells #[.int .i64 0, .int .i64 0, .int .u64 0, .string ⟨#[]⟩, .int .u64 0] 28)).heap.size = W.heap.size + 1 := World.size_alloc ..); (have f1 := World.alloc_heap_new W (.cells #[.int .i64 0, .int .i64 0, .int .u64 0, .string ⟨#[]⟩, .int .u64 0] 28))
  have hbd := intW_bd i hs
  have cc := fun W => class_c (intW i) (by omega) (by omega) W
  rw [intW_cls i hs] at cc
  have ct := fun W => toInt_c (intW i) (by omega) (by omega) W
  rw [toInt_intW i hs, intW_cls i hs] at ct
  generalize intW i = x at *
  clear hbd
  go_enter Try.func9, Try.ntmps9
  go_upto_region 1 with fail
  have eR := fun j => cell_of_row _ W.heap.size j _ _ _ f1
  have zR : ∀ j, (W.alloc (.cells #[.int .i64 0, .int .i64 0, .int .u64 0, .string ⟨#[]⟩, .int .u64 0] 28)).frozen? ⟨W.heap.size, j, none⟩ = false := fun j => by simp only [World.frozen?, f1]; simp
  have FR := hid f1
  have HB := hid hB1
  clear f1 hB1 hs1
  generalize W.alloc (.cells #[.int .i64 0, .int .i64 0, .int .u64 0, .string ⟨#[]⟩, .int .u64 0] 28) = W1 at *
  go_wp2_with (first | (go_at_call 27; (with_reducible refine (cc _).mono ?_); rintro e w' ⟨rfl, hw⟩; (have hw' := hw.symm); subst hw'; clear hw) | (go_at_call 29; (with_reducible refine (ct _).mono ?_); rintro e w' ⟨rfl, hw⟩; (have hw' := hw.symm); subst hw'; clear hw))
  refine bodyPost_ret (val_ret2 rfl _ _ W.heap.size _ _ _ _ _ (0, 0) rfl (five_set FR.out _ _ _ _ _)) rfl ?_
  exact ⟨rfl, five_below HB.out (Nat.le_refl _) _ _ _ _ _⟩
theorem unbox_flt (x : Int) (h0 : 0 ≤ x) (h1 : x < 18446744073709551616) (hx : cls x = 1) (hp : Value) (W : World) :
    Calls Try.prog 9 #[hp, .int .u64 x] W fun e w' => e = .returned (.tuple #[.agg #[.int .i64 3, .int .i64 0, .int .u64 x, .string ⟨#[]⟩, .int .u64 0], .int .i64 0]) ∧ Below W.heap.size W w' := by
  (have hB1 : Below W.heap.size W (W.alloc (.cells #[.int .i64 0, .int .i64 0, .int .u64 0, .string ⟨#[]⟩, .int .u64 0] 28)) := (Below.refl _ W).alloc (Nat.le_refl _) _); (have hs1 : (W.alloc (.cells #[.int .i64 0, .int .i64 0, .int .u64 0, .string ⟨#[]⟩, .int .u64 0] 28)).heap.size = W.heap.size + 1 := World.size_alloc ..); (have f1 := World.alloc_heap_new W (.cells #[.int .i64 0, .int .i64 0, .int .u64 0, .string ⟨#[]⟩, .int .u64 0] 28))
  have cc := fun W => class_c x (by omega) (by omega) W
  rw [hx] at cc
  clear hx
  go_enter Try.func9, Try.ntmps9
  go_upto_region 1 with fail
  have eR := fun j => cell_of_row _ W.heap.size j _ _ _ f1
  have zR : ∀ j, (W.alloc (.cells #[.int .i64 0, .int .i64 0, .int .u64 0, .string ⟨#[]⟩, .int .u64 0] 28)).frozen? ⟨W.heap.size, j, none⟩ = false := fun j => by simp only [World.frozen?, f1]; simp
  have FR := hid f1
  have HB := hid hB1
  clear f1 hB1 hs1
  generalize W.alloc (.cells #[.int .i64 0, .int .i64 0, .int .u64 0, .string ⟨#[]⟩, .int .u64 0] 28) = W1 at *
  go_wp2_with (go_at_call 27; (with_reducible refine (cc _).mono ?_); rintro e w' ⟨rfl, hw⟩; (have hw' := hw.symm); subst hw'; clear hw)
  refine bodyPost_ret (val_ret2 rfl _ _ W.heap.size _ _ _ _ _ (0, 0) rfl (five_set FR.out _ _ _ _ _)) rfl ?_
  exact ⟨rfl, five_below HB.out (Nat.le_refl _) _ _ _ _ _⟩
end
end Go.Proofs.Ytbgabpgohkcahaa.W
