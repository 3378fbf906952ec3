import Derived.Test.YtikgicepdalfpaaGreatBase8
import Derived.Laws.BytesArg
import Derived.Test.YtikgicepdalfpaaGreatBase0
import Derived.Lib.ConvBytes
import Derived.Test.YtikgicepdalfpaaGreatBase5
import Derived.Lib.AppendZeros
import Derived.Lib.SliceRun
import Derived.Test.YtikgicepdalfpaaGreatBase7
import Derived.Test.YtikgicepdalfpaaGreatBase4
/- The contract of package word's ToText: it returns the text of every pattern that is one; the world has at most one block more. -/
namespace Go.Proofs.YtikgicepdalfpaaGreat.W
open Go.ChangeShapes Go.WideShapes Go.RowKit

theorem conv_tab (w : World) (b0 b1 b2 b3 b4 : Int) (len cap : Nat) (h : len ≤ 5) :
    (convert 48 9 (.slice (some ⟨w.heap.size, 0, none⟩) len cap)).run Tryz.prog (w.alloc (.cells #[.int .u8 b0, .int .u8 b1, .int .u8 b2, .int .u8 b3, .int .u8 b4] 125)) =
      .ok (.string (strOfNums ([b0, b1, b2, b3, b4].take len))) (w.alloc (.cells #[.int .u8 b0, .int .u8 b1, .int .u8 b2, .int .u8 b3, .int .u8 b4] 125)) := by
  refine run_convert_bytes_arg _ 48 5 Tryz.underlying48 Tryz.underlying5 w.heap.size 0 len cap ([b0, b1, b2, b3, b4].take len) (by simp; omega) ?_ 9 Tryz.underlying9
  intro i hi
  have hc : (w.alloc (.cells #[.int .u8 b0, .int .u8 b1, .int .u8 b2, .int .u8 b3, .int .u8 b4] 125)).cell? ⟨w.heap.size, 0 + i, none⟩ = #[Value.int .u8 b0, .int .u8 b1, .int .u8 b2, .int .u8 b3, .int .u8 b4][0 + i]? := by
    exact World.cell?_alloc_new w _ _ _
  rw [hc, List.getD_eq_getElem?_getD, List.getElem?_take_of_lt hi]
  match i, (show i < 5 by omega) with
  | 0, _ => rfl
  | 1, _ => rfl
  | 2, _ => rfl
  | 3, _ => rfl
  | 4, _ => rfl
theorem tab_eq (k r : Int) (k0 : 0 ≤ k) (k5 : k ≤ 5) (r0 : 0 ≤ r) (r1 : r < 1099511627776) :
    strOfNums ([r % 256, r / 256 % 256, r / 65536 % 256, r / 16777216 % 256, r / 4294967296].take k.toNat) = ⟨(decN k.toNat r.toNat).toArray⟩ := by
  obtain ⟨m, rfl⟩ := Int.eq_ofNat_of_zero_le r0
  obtain ⟨j, rfl⟩ := Int.eq_ofNat_of_zero_le k0
  have b0 : ((m : Int) % 256).toNat = m % 256 := by omega
  have b1 : ((m : Int) / 256 % 256).toNat = m / 256 % 256 := by omega
  have b2 : ((m : Int) / 65536 % 256).toNat = m / 256 / 256 % 256 := by omega
  have b3 : ((m : Int) / 16777216 % 256).toNat = m / 256 / 256 / 256 % 256 := by omega
  have b4 : ((m : Int) / 4294967296).toNat = m / 256 / 256 / 256 / 256 % 256 := by omega
  have hj : j < 6 := by omega
  rw [Int.toNat_natCast, Int.toNat_natCast]
  unfold strOfNums
  match j, hj with
  | 0, _ => simp [decN]
  | 1, _ => simp [decN, b0]
  | 2, _ => simp [decN, b0, b1]
  | 3, _ => simp [decN, b0, b1, b2]
  | 4, _ => simp [decN, b0, b1, b2, b3]
  | 5, _ => simp [decN, b0, b1, b2, b3, b4]
set_option maxHeartbeats 400000 in
theorem toText_c (n : Int) (h0 : 0 ≤ n) (h1 : n < 18446744073709551616) (w : World) :
    Calls Tryz.prog 49 #[.int .u64 n] w fun e w' => e = .returned (.tuple #[.string (toTxt n), .bool (cls n == 5)]) ∧ Below w.heap.size w w' := by
  by_cases c : cls n = 5
  · obtain ⟨i1, i2, i3⟩ := cls_is5 n c
    have c' : (cls n == 5) = true := by simpa using c
    simp [txtOk] at i3
    obtain ⟨k, hk⟩ : ∃ k, n % 281474976710656 / 1099511627776 = k := ⟨_, rfl⟩
    obtain ⟨r, hr⟩ : ∃ r, n % 1099511627776 = r := ⟨_, rfl⟩
    have k0 : 0 ≤ k := by omega
    have k5 : k ≤ 5 := by omega
    have r0 : 0 ≤ r := by omega
    have r1 : r < 1099511627776 := by omega
    have H := hid (show toTxt n = ⟨(decN k.toNat r.toNat).toArray⟩ by simp [toTxt, c, hk, hr])
    clear i1 i2 i3
    have kc := fun (w : World) => conv_tab w (r % 256) (r / 256 % 256) (r / 65536 % 256) (r / 16777216 % 256) (r / 4294967296) k.toNat 5 (by omega)
    go_enter Tryz.func49, Tryz.ntmps49
    go_wp2_with (first | (go_at_call 46; refine (class_c _ (by omega) (by omega) _).mono ?_; rintro e w' ⟨rfl, rfl⟩) | (go_at_call 75; refine (loadOf_c _ (by omega) (by omega) _).mono ?_; rintro e w' ⟨rfl, rfl⟩) | (go_at_call 82; refine (split_c _ (by omega) (by omega) _).mono ?_; rintro e w' ⟨rfl, rfl⟩))
    refine wp_loop_rounds 6 ?_
    rw [rounds_succ]
    go_wp2
    rw [rounds_succ]
    go_wp2
    rw [rounds_succ]
    go_wp2
    rw [rounds_succ]
    go_wp2
    rw [rounds_succ]
    go_wp2
    rw [rounds_succ]
    go_wp2
    go_ret2
    exact ⟨ret_sb (by rw [H.out, tab_eq k r k0 k5 r0 r1]) c'.symm, (Below.refl _ _).alloc (Nat.le_refl _) _⟩
  · have H := hid (show toTxt n = ByteArray.empty by simp [toTxt, c])
    have d : (cls n == 5) = false := by simpa using c
    have d' : (cls n != 5) = true := by simpa using c
    go_enter Tryz.func49, Tryz.ntmps49
    go_wp2_with (first | (go_at_call 46; refine (class_c _ (by omega) (by omega) _).mono ?_; rintro e w' ⟨rfl, rfl⟩))
    go_ret2
    exact ⟨ret_sb H.out.symm d.symm, Below.refl _ _⟩
end Go.Proofs.YtikgicepdalfpaaGreat.W
/- Package value: Unbox, of a string in a cell; of what stands in a word. -/
namespace Go.Proofs.YtikgicepdalfpaaGreat.W
open Go.ChangeShapes Go.WideShapes Go.RowKit Go.Shelf
set_option linter.unusedVariables false
section
variable {W W' : World} {hb sb : Nat} {vc : Value} {T : Nat → Prop} {H : List (Option Hc)} {u h : Nat}
theorem unboxCell_text (g : HLay W hb sb vc T H u h) (w : Nat) (hw : w < 18446744073709551616) (id : Nat) (hi : hit H w = some id) (t : ByteArray) (hc : H[id]? = some (some (.text (strB t)))) :
    Calls Tryz.prog 50 #[.pointer (some ⟨hb, 0, none⟩), .int .u64 w] W fun e w' => e = .returned (.tuple #[.agg #[.int .i64 4, .int .i64 0, .int .u64 0, .string t, .int .u64 0], .int .i64 0]) ∧ Below W.heap.size W w' := by
  have hB1 : Below W.heap.size W (W.alloc (.cells #[.int .i64 0, .int .i64 0, .int .u64 0, .string ⟨#[]⟩, .int .u64 0] 33)) := (Below.refl _ W).alloc (Nat.le_refl _) _
  have hs1 : (W.alloc (.cells #[.int .i64 0, .int .i64 0, .int .u64 0, .string ⟨#[]⟩, .int .u64 0] 33)).heap.size = W.heap.size + 1 := World.size_alloc ..
  have f1 := World.alloc_heap_new W (.cells #[.int .i64 0, .int .i64 0, .int .u64 0, .string ⟨#[]⟩, .int .u64 0] 33)
  have cg := get_text (g.below hB1) w hw id hi t hc
  have kp : Hid (∀ w4, Below (W.alloc (.cells #[.int .i64 0, .int .i64 0, .int .u64 0, .string ⟨#[]⟩, .int .u64 0] 33)).heap.size (W.alloc (.cells #[.int .i64 0, .int .i64 0, .int .u64 0, .string ⟨#[]⟩, .int .u64 0] 33)) w4 → w4.heap[W.heap.size]? = some (.cells #[.int .i64 0, .int .i64 0, .int .u64 0, .string ⟨#[]⟩, .int .u64 0] 33) ∧ Below W.heap.size W w4 ∧ W.heap.size + 1 ≤ w4.heap.size) := by
    show ∀ w4, _
    intro w4 hB4
    exact ⟨(hB4.block _ (by omega)).trans f1, hB1.trans (hB4.mono hB1.size), by have := hB4.size; omega⟩
  clear g hc
  go_enter Tryz.func50, Tryz.ntmps50
  go_upto_region 1 with fail
  generalize W.alloc (.cells #[.int .i64 0, .int .i64 0, .int .u64 0, .string ⟨#[]⟩, .int .u64 0] 33) = W1 at *
  go_upto_region 2 with (go_at_call 43; (with_reducible refine cg.mono ?_); rintro e w4 ⟨rfl, hB4⟩; clear cg; (obtain ⟨fR, hBf, hz4⟩ := kp.out w4 hB4))
  have hB5 : Below w4.heap.size w4 (w4.alloc (.cells #[.int .i64 4, .bool false, .int .i64 0, .string t, .slice none 0 0, .slice none 0 0, .int .u64 0, .int .i64 0, .int .i64 0] 50)) := (Below.refl _ w4).alloc (Nat.le_refl _) _
  have e5 := World.cell?_alloc_new w4 #[.int .i64 4, .bool false, .int .i64 0, .string t, .slice none 0 0, .slice none 0 0, .int .u64 0, .int .i64 0, .int .i64 0] 50
  have d0 := e5 0
  have d2 := e5 3
  simp only [List.getElem?_toArray, List.getElem?_cons_succ, List.getElem?_cons_zero] at d0 d2
  generalize w4.alloc (.cells #[.int .i64 4, .bool false, .int .i64 0, .string t, .slice none 0 0, .slice none 0 0, .int .u64 0, .int .i64 0, .int .i64 0] 50) = W5 at *
  have f5 : W5.heap[W.heap.size]? = some (.cells #[.int .i64 0, .int .i64 0, .int .u64 0, .string ⟨#[]⟩, .int .u64 0] 33) := (hB5.block _ (by omega)).trans fR
  have hBe : Below W.heap.size W W5 := hBf.trans (hB5.mono hBf.size)
  have eR := fun j => cell_of_row W5 W.heap.size j _ _ _ f5
  have zR : ∀ j, W5.frozen? ⟨W.heap.size, j, none⟩ = false := fun j => by simp [World.frozen?, f5]
  have FR := hid f5
  clear f5 fR hB5 hBf hB4 e5 hz4
  go_wp2
  refine bodyPost_ret (val_ret2 rfl _ _ W.heap.size _ _ _ _ _ (0, 0) rfl (five_set FR.out _ _ _ _ _)) rfl ?_
  exact ⟨rfl, five_below hBe (Nat.le_refl _) _ _ _ _ _⟩
theorem unbox_text (g : HLay W hb sb vc T H u h) (w : Nat) (hw : w < 18446744073709551616) (hcl : cls (w : Int) = 6) (id : Nat) (hi : hit H w = some id) (t : ByteArray) (hc : H[id]? = some (some (.text (strB t)))) :
    Calls Tryz.prog 25 #[.pointer (some ⟨hb, 0, none⟩), .int .u64 w] W fun e w' => e = .returned (.tuple #[.agg #[.int .i64 4, .int .i64 0, .int .u64 0, .string t, .int .u64 0], .int .i64 0]) ∧ Below W.heap.size W w' := by
  have hB1 : Below W.heap.size W (W.alloc (.cells #[.int .i64 0, .int .i64 0, .int .u64 0, .string ⟨#[]⟩, .int .u64 0] 33)) := (Below.refl _ W).alloc (Nat.le_refl _) _
  have hs1 : (W.alloc (.cells #[.int .i64 0, .int .i64 0, .int .u64 0, .string ⟨#[]⟩, .int .u64 0] 33)).heap.size = W.heap.size + 1 := World.size_alloc ..
  have f1 := World.alloc_heap_new W (.cells #[.int .i64 0, .int .i64 0, .int .u64 0, .string ⟨#[]⟩, .int .u64 0] 33)
  have cc := fun W => class_c (w : Int) (by omega) (by omega) W
  rw [hcl] at cc
  have cu := unboxCell_text (g.below hB1) w hw id hi t hc
  have kp : Hid (∀ w4, Below (W.alloc (.cells #[.int .i64 0, .int .i64 0, .int .u64 0, .string ⟨#[]⟩, .int .u64 0] 33)).heap.size (W.alloc (.cells #[.int .i64 0, .int .i64 0, .int .u64 0, .string ⟨#[]⟩, .int .u64 0] 33)) w4 → w4.heap[W.heap.size]? = some (.cells #[.int .i64 0, .int .i64 0, .int .u64 0, .string ⟨#[]⟩, .int .u64 0] 33) ∧ Below W.heap.size W w4) := by
    show ∀ w4, _
    intro w4 hB4
    exact ⟨(hB4.block _ (by omega)).trans f1, hB1.trans (hB4.mono hB1.size)⟩
  clear g hc hcl
  go_enter Tryz.func25, Tryz.ntmps25
  go_upto_region 1 with fail
  generalize W.alloc (.cells #[.int .i64 0, .int .i64 0, .int .u64 0, .string ⟨#[]⟩, .int .u64 0] 33) = W1 at *
  go_wp2_with (first | (go_at_call 46; (with_reducible refine (cc _).mono ?_); rintro e w' ⟨rfl, hw⟩; (have hw' := hw.symm); subst hw'; clear hw) | (go_at_call 50; (with_reducible refine cu.mono ?_); rintro e w4 ⟨rfl, hB4⟩; clear cu; (obtain ⟨fR, hBf⟩ := kp.out w4 hB4); (have eR := fun j => cell_of_row w4 W.heap.size j _ _ _ fR); (have zR := (fun j => by simp [World.frozen?, fR] : ∀ j, w4.frozen? ⟨W.heap.size, j, none⟩ = false)); (have FR := hid fR); clear fR))
  refine bodyPost_ret (val_ret2 rfl _ _ W.heap.size _ _ _ _ _ (0, 0) rfl (five_set FR.out _ _ _ _ _)) rfl ?_
  exact ⟨rfl, five_below hBf (Nat.le_refl _) _ _ _ _ _⟩
theorem unbox_stext (t : ByteArray) (ht : t.size ≤ 5) (hp : Value) (W : World) :
    Calls Tryz.prog 25 #[hp, .int .u64 (txtW t)] W fun e w' => e = .returned (.tuple #[.agg #[.int .i64 4, .int .i64 0, .int .u64 0, .string t, .int .u64 0], .int .i64 0]) ∧ Below W.heap.size W w' := by
  (have hB1 : Below W.heap.size W (W.alloc (.cells #[.int .i64 0, .int .i64 0, .int .u64 0, .string ⟨#[]⟩, .int .u64 0] 33)) := (Below.refl _ W).alloc (Nat.le_refl _) _); (have hs1 : (W.alloc (.cells #[.int .i64 0, .int .i64 0, .int .u64 0, .string ⟨#[]⟩, .int .u64 0] 33)).heap.size = W.heap.size + 1 := World.size_alloc ..); (have f1 := World.alloc_heap_new W (.cells #[.int .i64 0, .int .i64 0, .int .u64 0, .string ⟨#[]⟩, .int .u64 0] 33))
  have hbd := cls_is5 _ (txtW_cls t ht)
  have cc := fun W => class_c (txtW t) (by omega) (by omega) W
  rw [txtW_cls t ht] at cc
  have ct := fun W => toText_c (txtW t) (by omega) (by omega) W
  rw [toTxt_txtW t ht, txtW_cls t ht] at ct
  generalize txtW t = x at *
  have kp : Hid (∀ w4, Below (W.alloc (.cells #[.int .i64 0, .int .i64 0, .int .u64 0, .string ⟨#[]⟩, .int .u64 0] 33)).heap.size (W.alloc (.cells #[.int .i64 0, .int .i64 0, .int .u64 0, .string ⟨#[]⟩, .int .u64 0] 33)) w4 → w4.heap[W.heap.size]? = some (.cells #[.int .i64 0, .int .i64 0, .int .u64 0, .string ⟨#[]⟩, .int .u64 0] 33) ∧ Below W.heap.size W w4) := by
    show ∀ w4, _
    intro w4 hB4
    exact ⟨(hB4.block _ (by omega)).trans f1, hB1.trans (hB4.mono hB1.size)⟩
  clear hbd
  go_enter Tryz.func25, Tryz.ntmps25
  go_upto_region 1 with fail
  generalize W.alloc (.cells #[.int .i64 0, .int .i64 0, .int .u64 0, .string ⟨#[]⟩, .int .u64 0] 33) = W1 at *
  go_wp2_with (first | (go_at_call 46; (with_reducible refine (cc _).mono ?_); rintro e w' ⟨rfl, hw⟩; (have hw' := hw.symm); subst hw'; clear hw) | (go_at_call 49; (with_reducible refine (ct _).mono ?_); rintro e w4 ⟨rfl, hB4⟩; clear ct; (obtain ⟨fR, hBf⟩ := kp.out w4 hB4); (have eR := fun j => cell_of_row w4 W.heap.size j _ _ _ fR); (have zR := (fun j => by simp [World.frozen?, fR] : ∀ j, w4.frozen? ⟨W.heap.size, j, none⟩ = false)); (have FR := hid fR); clear fR))
  refine bodyPost_ret (val_ret2 rfl _ _ W.heap.size _ _ _ _ _ (0, 0) rfl (five_set FR.out _ _ _ _ _)) rfl ?_
  exact ⟨rfl, five_below hBf (Nat.le_refl _) _ _ _ _ _⟩
theorem unbox_sint (i : Int) (hs : smallB i = true) (hp : Value) (W : World) :
    Calls Tryz.prog 25 #[hp, .int .u64 (intW i)] W fun e w' => e = .returned (.tuple #[.agg #[.int .i64 2, .int .i64 i, .int .u64 0, .string ⟨#[]⟩, .int .u64 0], .int .i64 0]) ∧ Below W.heap.size W w' := by
  (have hB1 : Below W.heap.size W (W.alloc (.cells #[.int .i64 0, .int .i64 0, .int .u64 0, .string ⟨#[]⟩, .int .u64 0] 33)) := (Below.refl _ W).alloc (Nat.le_refl _) _); (have hs1 : (W.alloc (.cells #[.int .i64 0, .int .i64 0, .int .u64 0, .string ⟨#[]⟩, .int .u64 0] 33)).heap.size = W.heap.size + 1 := World.size_alloc ..); (have f1 := World.alloc_heap_new W (.cells #[.int .i64 0, .int .i64 0, .int .u64 0, .string ⟨#[]⟩, .int .u64 0] 33))
  have hbd := intW_bd i hs
  have cc := fun W => class_c (intW i) (by omega) (by omega) W
  rw [intW_cls i hs] at cc
  have ct := fun W => toInt_c (intW i) (by omega) (by omega) W
  rw [toInt_intW i hs, intW_cls i hs] at ct
  generalize intW i = x at *
  clear hbd
  go_enter Tryz.func25, Tryz.ntmps25
  go_upto_region 1 with fail
  have eR := fun j => cell_of_row _ W.heap.size j _ _ _ f1
  have zR : ∀ j, (W.alloc (.cells #[.int .i64 0, .int .i64 0, .int .u64 0, .string ⟨#[]⟩, .int .u64 0] 33)).frozen? ⟨W.heap.size, j, none⟩ = false := fun j => by simp only [World.frozen?, f1]; simp
  have FR := hid f1
  have HB := hid hB1
  clear f1 hB1 hs1
  generalize W.alloc (.cells #[.int .i64 0, .int .i64 0, .int .u64 0, .string ⟨#[]⟩, .int .u64 0] 33) = W1 at *
  go_wp2_with (first | (go_at_call 46; (with_reducible refine (cc _).mono ?_); rintro e w' ⟨rfl, hw⟩; (have hw' := hw.symm); subst hw'; clear hw) | (go_at_call 48; (with_reducible refine (ct _).mono ?_); rintro e w' ⟨rfl, hw⟩; (have hw' := hw.symm); subst hw'; clear hw))
  refine bodyPost_ret (val_ret2 rfl _ _ W.heap.size _ _ _ _ _ (0, 0) rfl (five_set FR.out _ _ _ _ _)) rfl ?_
  exact ⟨rfl, five_below HB.out (Nat.le_refl _) _ _ _ _ _⟩
theorem unbox_flt (x : Int) (h0 : 0 ≤ x) (h1 : x < 18446744073709551616) (hx : cls x = 1) (hp : Value) (W : World) :
    Calls Tryz.prog 25 #[hp, .int .u64 x] W fun e w' => e = .returned (.tuple #[.agg #[.int .i64 3, .int .i64 0, .int .u64 x, .string ⟨#[]⟩, .int .u64 0], .int .i64 0]) ∧ Below W.heap.size W w' := by
  (have hB1 : Below W.heap.size W (W.alloc (.cells #[.int .i64 0, .int .i64 0, .int .u64 0, .string ⟨#[]⟩, .int .u64 0] 33)) := (Below.refl _ W).alloc (Nat.le_refl _) _); (have hs1 : (W.alloc (.cells #[.int .i64 0, .int .i64 0, .int .u64 0, .string ⟨#[]⟩, .int .u64 0] 33)).heap.size = W.heap.size + 1 := World.size_alloc ..); (have f1 := World.alloc_heap_new W (.cells #[.int .i64 0, .int .i64 0, .int .u64 0, .string ⟨#[]⟩, .int .u64 0] 33))
  have cc := fun W => class_c x (by omega) (by omega) W
  rw [hx] at cc
  clear hx
  go_enter Tryz.func25, Tryz.ntmps25
  go_upto_region 1 with fail
  have eR := fun j => cell_of_row _ W.heap.size j _ _ _ f1
  have zR : ∀ j, (W.alloc (.cells #[.int .i64 0, .int .i64 0, .int .u64 0, .string ⟨#[]⟩, .int .u64 0] 33)).frozen? ⟨W.heap.size, j, none⟩ = false := fun j => by simp only [World.frozen?, f1]; simp
  have FR := hid f1
  have HB := hid hB1
  clear f1 hB1 hs1
  generalize W.alloc (.cells #[.int .i64 0, .int .i64 0, .int .u64 0, .string ⟨#[]⟩, .int .u64 0] 33) = W1 at *
  go_wp2_with (go_at_call 46; (with_reducible refine (cc _).mono ?_); rintro e w' ⟨rfl, hw⟩; (have hw' := hw.symm); subst hw'; clear hw)
  refine bodyPost_ret (val_ret2 rfl _ _ W.heap.size _ _ _ _ _ (0, 0) rfl (five_set FR.out _ _ _ _ _)) rfl ?_
  exact ⟨rfl, five_below HB.out (Nat.le_refl _) _ _ _ _ _⟩
end
end Go.Proofs.YtikgicepdalfpaaGreat.W
/- Package text: order. -/
namespace Go.Proofs.YtikgicepdalfpaaGreat.W
open Go.ChangeShapes Go.WideShapes Go.RowKit
set_option linter.unusedVariables false
/-- how two rows of bytes stand to each other -/
def ordL : List Nat → List Nat → Int
  | [], [] => 0
  | [], _ :: _ => -1
  | _ :: _, [] => 1
  | a :: x, b :: y => if a = b then ordL x y else if a < b then -1 else 1
theorem ordL_self (x : List Nat) : ordL x x = 0 := by
  induction x with
  | nil => rfl
  | cons a x ih => simp [ordL, ih]
theorem ordL_eq (x : List Nat) : ∀ y, ordL x y = 0 → x = y := by
  induction x with
  | nil => intro y h; cases y with
    | nil => rfl
    | cons b y => simp [ordL] at h
  | cons a x ih => intro y h; cases y with
    | nil => simp [ordL] at h
    | cons b y =>
      unfold ordL at h
      by_cases c : a = b
      · rw [if_pos c] at h; rw [c, ih y h]
      · rw [if_neg c] at h; split at h <;> simp at h
theorem ordL_neg (x : List Nat) : ∀ y, ordL x y = - ordL y x := by
  induction x with
  | nil => intro y; cases y <;> simp [ordL]
  | cons a x ih => intro y; cases y with
    | nil => simp [ordL]
    | cons b y =>
      unfold ordL
      by_cases c : a = b
      · rw [if_pos c, if_pos c.symm]; exact ih y
      · rw [if_neg c, if_neg (Ne.symm c)]
        by_cases d : a < b
        · rw [if_pos d, if_neg (by omega)]
        · rw [if_neg d, if_pos (by omega)]; rfl
/-- as numbers -/
def cmpI (a b : Int) : Int := if a < b then -1 else if a > b then 1 else 0
theorem ordL_at (x y : List Nat) (k : Nat) (h : x.take k = y.take k) (hx : k ≤ x.length) (hy : k ≤ y.length) : ordL x y = ordL (x.drop k) (y.drop k) := by
  induction k generalizing x y with
  | zero => rfl
  | succ k ih =>
    cases x with
    | nil => simp at hx
    | cons a x => cases y with
      | nil => simp at hy
      | cons b y =>
        simp at h
        simp at hx hy
        rw [List.drop_succ_cons, List.drop_succ_cons, ← ih x y h.2 hx hy]
        show (if a = b then ordL x y else _) = _
        rw [if_pos h.1]
theorem ordL_end1 (x y : List Nat) (k : Nat) (h : x.take k = y.take k) (hx : k < x.length) (hy : k = y.length) : ordL x y = 1 := by
  rw [ordL_at x y k h (by omega) (by omega), List.drop_eq_nil_of_le (by omega : y.length ≤ k), List.drop_eq_getElem_cons hx]
  rfl
theorem ordL_ne (x y : List Nat) (k : Nat) (h : x.take k = y.take k) (a b : Nat) (hx : x[k]? = some a) (hy : y[k]? = some b) (hne : a ≠ b) : ordL x y = cmpI a b := by
  obtain ⟨lx, ex⟩ := List.getElem?_eq_some_iff.1 hx
  obtain ⟨ly, ey⟩ := List.getElem?_eq_some_iff.1 hy
  rw [ordL_at x y k h (by omega) (by omega), List.drop_eq_getElem_cons lx, List.drop_eq_getElem_cons ly, ex, ey]
  unfold ordL cmpI
  rw [if_neg hne]
  by_cases d : a < b
  · rw [if_pos d, if_pos (by omega)]
  · rw [if_neg d, if_neg (by omega), if_pos (by omega)]
theorem ordL_end (x y : List Nat) (h : x = y.take x.length) (hl : x.length ≤ y.length) : ordL x y = cmpI x.length y.length := by
  have h1 := ordL_at x y x.length (by rw [List.take_length]; exact h) (Nat.le_refl _) hl
  rw [h1, List.drop_length]
  by_cases c : x.length = y.length
  · rw [List.drop_eq_nil_of_le (by omega)]
    unfold cmpI ordL
    rw [if_neg (by omega), if_neg (by omega)]
  · rw [List.drop_eq_getElem_cons (by omega : x.length < y.length)]
    unfold cmpI ordL
    rw [if_pos (by omega)]
/-- the bytes of a string, as numbers -/
def byL (t : ByteArray) : List Nat := t.data.toList.map UInt8.toNat
theorem byL_len (t : ByteArray) : (byL t).length = t.size := by unfold byL; rw [List.length_map]; rfl
theorem byL_get (t : ByteArray) (k : Nat) (h : k < t.size) : (byL t)[k]? = some (t[k]).toNat := by
  unfold byL
  rw [List.getElem?_map]
  have h2 : k < t.data.size := h
  have : t.data.toList[k]? = some t[k] := by
    rw [Array.getElem?_toList, Array.getElem?_eq_getElem h2]; rfl
  rw [this]; rfl
theorem take_byL {x y : List Nat} {k a : Nat} (h : x.take k = y.take k) (hx : x[k]? = some a) (hy : y[k]? = some a) : x.take (k + 1) = y.take (k + 1) := by
  rw [List.take_add_one, List.take_add_one, h, hx, hy]
end Go.Proofs.YtikgicepdalfpaaGreat.W
/- Package text: what a word tells; Of, Len, Byte, both, Compare. -/
namespace Go.Proofs.YtikgicepdalfpaaGreat.W
open Go.ChangeShapes Go.WideShapes Go.RowKit Go.Shelf
set_option linter.unusedVariables false
/-- a word of a string -/
def IsTxt (H : List (Option Hc)) (w : Nat) (t : ByteArray) : Prop := (t.size ≤ 5 ∧ (w : Int) = txtW t) ∨ ∃ id, w = hw id ∧ id < 281474976710656 ∧ H[id]? = some (some (.text (strB t)))
/-- what is held is held on -/
def Ext (H H' : List (Option Hc)) : Prop := ∀ (i : Nat) (c : Hc), H[i]? = some (some c) → H'[i]? = some (some c)
theorem Ext.refl (H : List (Option Hc)) : Ext H H := fun _ _ h => h
theorem Ext.trans {H H' H'' : List (Option Hc)} (h : Ext H H') (h' : Ext H' H'') : Ext H H'' := fun i c e => h' i c (h i c e)
theorem ext_put (H : List (Option Hc)) (c : Hc) : Ext H (putH H (lid H) (some c)) := by
  intro i x hx
  rw [putH_ne H _ i (fun e => ?_)]
  · exact hx
  · subst e
    have hl := (List.getElem?_eq_some_iff.1 hx).1
    rw [lid_free hl] at hx
    cases hx
theorem IsTxt.ext {H H' : List (Option Hc)} {w : Nat} {t : ByteArray} (h : IsTxt H w t) (he : Ext H H') : IsTxt H' w t := by
  rcases h with h | ⟨id, h1, h2, h3⟩
  · exact .inl h
  · exact .inr ⟨id, h1, h2, he _ _ h3⟩
theorem IsTxt.lt {H : List (Option Hc)} {w : Nat} {t : ByteArray} (h : IsTxt H w t) : w < 18446744073709551616 := by
  rcases h with ⟨h1, h2⟩ | ⟨id, rfl, h2, h3⟩
  · have := cls_is5 _ (txtW_cls t h1); omega
  · exact hw_lt id h2
section
variable {W1 : World} {S : Nat → Prop} {hb : Nat} {H : List (Option Hc)} {u : Nat}
theorem unbox_txt (q : HSt W1 S hb H u) (w : Nat) (t : ByteArray) (h : IsTxt H w t) :
    Calls Tryz.prog 25 #[.pointer (some ⟨hb, 0, none⟩), .int .u64 w] W1 fun e w' => e = .returned (.tuple #[.agg #[.int .i64 4, .int .i64 0, .int .u64 0, .string t, .int .u64 0], .int .i64 0]) ∧ Below W1.heap.size W1 w' := by
  rcases h with ⟨h1, h2⟩ | ⟨id, rfl, h2, h3⟩
  · rw [h2]; exact unbox_stext t h1 _ W1
  · obtain ⟨sb, vc, T, l, _⟩ := q
    exact unbox_text l (hw id) (hw_lt id h2) (cls_hw id h2) id (hit_hw h2 h3) t h3
/-- the i-th byte, or none -/
def byteR (t : ByteArray) (i : Int) : Int := if h : 0 ≤ i ∧ i < t.size then ((t[i.toNat]'(by omega)).toNat : Nat) else 0
/-- and its number -/
def byteE (t : ByteArray) (i : Int) : Int := if 0 ≤ i ∧ i < t.size then 0 else 31
end
end Go.Proofs.YtikgicepdalfpaaGreat.W
/- slices.Grow and slices.Concat, of words. -/
namespace Go.Proofs.YtikgicepdalfpaaGreat.W
open Go.ChangeShapes Go.WideShapes Go.RowKit Go.Shelf
set_option linter.unusedVariables false
theorem infoW : (Tryz.prog.info? 22).map (fun i => (i.zero, i.size, i.bytes)) = some (some (.int .u64 0), 1, 8) := by kernel_rfl
theorem underW : Tryz.prog.underlying 27 = some (.slice 22) := by kernel_rfl
theorem grow_run (w : World) (ty : TypeId) (m : Nat) (hm : 0 < m) (hm2 : m ≤ 1000000) : ∃ cap w', (Builtin.append_ #[27, 3] ty #[.slice none 0 0, .int .i64 (m : Int)]).run Tryz.prog w = .ok (.slice (some ⟨w.heap.size, 0, none⟩) m cap) w' ∧ w'.ownsRow w.heap.size 22 1 (.slice (some ⟨w.heap.size, 0, none⟩) 0 cap) 0 [] ∧ w.grownBy w' none ∧ m ≤ cap := by
  obtain ⟨i0, hi, hz0, hz1, hz2⟩ := info_parts infoW
  have hrun := Lib.run_append_nil_zeros (P := Tryz.prog) w 27 3 ty 22 i0 (.int .u64 0) .i64 .i64 underW Tryz.underlying3 hi hz0 m hm (by omega) (by omega) (by rw [hz2]; omega)
  refine ⟨_, _, hrun, ⟨by simp, .inr ⟨w.heap.size, _, _, rfl, Nat.le_refl _, heap_alloc_new w.drew _, Nat.zero_le _, grownCap_le_maxLen w _ _ _ (by unfold maxLen; omega), ?_, by simp⟩⟩, ⟨rfl, rfl, rfl, ?_, fun k hk _ => Below.heap_alloc w.drew _ k hk⟩, ?_⟩
  · have h1 : (Value.int .u64 0).cells = #[.int .u64 0] := rfl
    rw [zeroCells_one _ _ h1, zeroCells_one _ _ h1]
    have := grownCap_ge w m 0 22
    simp; omega
  · show w.heap.size ≤ (w.drew.alloc _).heap.size; simp
  · exact grownCap_ge w m 0 22
set_option maxRecDepth 100000 in
theorem grow_c (W : World) (m : Nat) (hm : 0 < m) (hm2 : m ≤ 1000000) : Calls Tryz.prog 100 #[.slice none 0 0, .int .i64 m] W fun e w' => ∃ v, e = .returned v ∧ Below W.heap.size W w' ∧ w'.ownsRow W.heap.size 22 1 v 0 [] := by
  obtain ⟨cap, w1, hrun, hown, hgr, hcap⟩ := grow_run W 27 m hm hm2
  have h1 : ¬ ((m : Int) < 0) := by omega
  have h3 : IntKind.i64.wrap (m : Int) = m := by rw [IntKind.wrap_i64]; omega
  have h4 : (m : Int) > 0 := by omega
  have hB : Below W.heap.size W w1 := ((Upd.refl (fun _ => False) W).grown hgr (fun k e => by cases e)).below (Nat.le_refl _) (fun k e => e.elim)
  go_enter Tryz.func100, Tryz.ntmps100
  go_wp2_with (at_builtin; refine Lib.wpList_append_run _ rfl (.tmp 20) (.tmp 21) 27 3 rfl _ _ (by simp [Act.eval]) (by simp [Act.eval]) _ _ hrun ?_)
  go_ret
  exact ⟨_, rfl, hB, hown⟩
theorem app_words (w : World) (B : Nat) (ty : TypeId) (hB : B ≤ w.heap.size) (v : Value) (n : Nat) (xs : List Value) (hown : w.ownsRow B 22 1 v n xs) (vs : Value) (ws : List Nat) (hw : WordsAt w vs ws) (hn : n + ws.length ≤ 1000000) :
    ∃ v' w', (Builtin.append_ #[27, 27] ty #[v, vs]).run Tryz.prog w = .ok v' w' ∧ w'.ownsRow B 22 1 v' (n + ws.length) (xs ++ ws.map (fun x => .int .u64 (x : Nat))) ∧ w.grownBy w' v.ownBlock := by
  obtain ⟨i0, hi, hz0, hz1, hz2⟩ := info_parts infoW
  obtain ⟨o, cap, rfl, hl, h64, hcell⟩ := hw
  cases o with
  | none =>
    have h0 : ws = [] := by
      cases ws with
      | nil => rfl
      | cons a r => obtain ⟨x, hx, _⟩ := hcell 0 (by simp); cases hx
    subst h0
    refine ⟨v, w, ?_, by simpa using hown, ⟨rfl, rfl, rfl, Nat.le_refl _, fun k _ _ => rfl⟩⟩
    rcases hown.2 with ⟨rfl, rfl⟩ | ⟨g, cap', cur, rfl, _, _, hnc, _⟩
    · simp [Builtin.append_, run_underlying underW, sizeOf, typeInfo, hi, Builtin.lenOf, Builtin.firstCells]
    · simp [Builtin.append_, run_underlying underW, sizeOf, typeInfo, hi, Builtin.lenOf, Builtin.firstCells, hnc, storeCells]
  | some a =>
    have h1 : ∀ j u, (ws.map (fun x => Value.int .u64 (x : Nat)))[j]? = some u → w.cell? (a.add j) = some u := by
      intro j u hj
      rw [List.getElem?_map] at hj
      by_cases hjl : j < ws.length
      · rw [List.getElem?_eq_getElem hjl] at hj
        obtain ⟨x, hx, hc⟩ := hcell j hjl
        cases hx
        simp at hj
        rw [← hj]; exact hc
      · rw [List.getElem?_eq_none (by omega)] at hj; cases hj
    have h2 : ∀ u ∈ ws.map (fun x => Value.int .u64 (x : Nat)), u.oneCell' = true := by
      intro u hu
      obtain ⟨x, _, rfl⟩ := List.mem_map.1 hu
      rfl
    obtain ⟨v', w', hrun, ho, hg, _⟩ := run_append_own w B 27 ty 22 i0 (.int .u64 0) 1 8 underW hi hz0 hz1 hz2 rfl (by omega) v n xs hown a ws.length cap (ws.map (fun x => .int .u64 (x : Nat))) (by simp) h1 h2 (by unfold maxLen; omega) (by omega) hB
    exact ⟨v', w', hrun, ho, hg⟩
theorem words_own {w : World} {B : Nat} {v : Value} {ws : List Nat} (h : w.ownsRow B 22 1 v ws.length (ws.map (fun x => .int .u64 (x : Nat)))) (hl : ws.length ≤ 1000000) (h64 : ∀ x ∈ ws, x < 18446744073709551616) : WordsAt w v ws := by
  rcases h.2 with ⟨rfl, h0⟩ | ⟨g, cap, cur, rfl, _⟩
  · exact ⟨none, 0, by rw [h0], by omega, h64, fun i hi => by omega⟩
  · refine ⟨some ⟨g, 0, none⟩, cap, rfl, by omega, h64, fun i hi => ⟨_, rfl, ?_⟩⟩
    exact h.cells (g := g) rfl i _ (by rw [List.getElem?_map, List.getElem?_eq_getElem hi]; rfl)
set_option maxRecDepth 100000 in
theorem sconcat_c (W : World) (gb cap : Nat) (v1 v2 : Value) (r1 r2 : List Nat) (hc0 : W.cell? ⟨gb, 0, none⟩ = some v1) (hc1 : W.cell? ⟨gb, 1, none⟩ = some v2) (h1 : WordsAt W v1 r1) (h2 : WordsAt W v2 r2) (hl : r1.length + r2.length ≤ 1000000) (hp : 0 < r2.length) :
    Calls Tryz.prog 57 #[.slice (some ⟨gb, 0, none⟩) 2 cap] W fun e w' => ∃ v, e = .returned v ∧ Below W.heap.size W w' ∧ WordsAt w' v (r1 ++ r2) := by
  have cg := grow_c W (r1.length + r2.length) (by omega) hl
  have h1' := h1
  have h2' := h2
  obtain ⟨o1, cap1, rfl, l1, x1, e1⟩ := h1'
  obtain ⟨o2, cap2, rfl, l2, x2, e2⟩ := h2'
  have X1 := hid x1
  have X2 := hid x2
  have HL := hid hl
  clear x1 x2 e1 e2 l1 l2
  generalize hn1 : r1.length = n1 at *
  generalize hn2 : r2.length = n2 at *
  have a1 : IntKind.i64.wrap (n1 : Int) = (n1 : Int) := by rw [IntKind.wrap_i64]; omega
  have a2 : IntKind.i64.wrap ((n1 : Int) + (n2 : Int)) = (n1 : Int) + (n2 : Int) := by rw [IntKind.wrap_i64]; omega
  have b1 : ¬ (n1 : Int) < 0 := by omega
  have b2 : ¬ (n1 : Int) + (n2 : Int) < 0 := by omega
  rw [show ((n1 + n2 : Nat) : Int) = (n1 : Int) + (n2 : Int) by omega] at cg
  have N1 := hid hn1
  have N2 := hid hn2
  clear hn1 hn2 hl
  go_enter Tryz.func57, Tryz.ntmps57
  go_wp2
  refine wp_loop_rounds 3 ?_
  rw [rounds_succ]
  go_wp2
  rw [rounds_succ]
  go_wp2
  rw [rounds_succ]
  go_wp2_with (go_at_call 100; (with_reducible refine cg.mono ?_); rintro e w4 ⟨v, rfl, hB4, hown⟩; clear cg)
  have H1 := hid (words_below h1 hB4)
  obtain ⟨v5, w5, hrun5, hown5, hg5⟩ := app_words w4 W.heap.size 27 hB4.size v 0 [] hown (.slice o1 n1 cap1) r1 H1.out (by rw [N1.out]; have := HL.out; omega)
  have hU5 : Upd (fun k => W.heap.size ≤ k) w4 w5 := (Upd.refl (fun k => W.heap.size ≤ k) w4).grown hg5 (fun k e => .inl (hown.lt k e).1)
  have hB5 : Below W.heap.size W w5 := hB4.trans (hU5.below hB4.size (fun k e => e))
  obtain ⟨v6, w6, hrun6, hown6, hg6⟩ := app_words w5 W.heap.size 27 hB5.size v5 (0 + r1.length) ([] ++ r1.map (fun x => .int .u64 (x : Nat))) hown5 (.slice o2 n2 cap2) r2 (words_below h2 hB5) (by rw [N1.out, N2.out]; have := HL.out; omega)
  have hU6 : Upd (fun k => W.heap.size ≤ k) w5 w6 := (Upd.refl (fun k => W.heap.size ≤ k) w5).grown hg6 (fun k e => .inl (hown5.lt k e).1)
  have hB6 : Below W.heap.size W w6 := hB5.trans (hU6.below hB5.size (fun k e => e))
  have d0 := below_cell hB4 hc0
  have d1 := below_cell hB5 hc1
  have fin : Hid (WordsAt w6 v6 (r1 ++ r2)) := by
    refine words_own (B := W.heap.size) ?_ ?_ ?_
    · rw [List.length_append, List.map_append]
      simpa using hown6
    · rw [List.length_append, N1.out, N2.out]; exact HL.out
    · intro x hx
      rcases List.mem_append.1 hx with h | h
      · exact X1.out x h
      · exact X2.out x h
  have HB6 := hid hB6
  obtain ⟨p0, q0, hv0⟩ := slice_of (owns_base hown (b' := 0) (fun _ _ => Nat.zero_le _))
  obtain ⟨p5, q5, hv5⟩ := slice_of (owns_base hown5 (b' := 0) (fun _ _ => Nat.zero_le _))
  subst hv0
  subst hv5
  clear hown hown5 hown6 hg5 hg6 hU5 hU6 hB5 hB6 hB4 h1 h2
  refine wp_loop_rounds 3 ?_
  rw [rounds_succ]
  go_wp2_with (at_builtin; refine Lib.wpList_append_run _ rfl (.tmp 31) (.tmp 32) 27 27 rfl _ _ (by simp [Act.eval]) (by simp [Act.eval]) _ _ hrun5 ?_)
  rw [rounds_succ]
  go_wp2_with (at_builtin; refine Lib.wpList_append_run _ rfl (.tmp 31) (.tmp 32) 27 27 rfl _ _ (by simp [Act.eval]) (by simp [Act.eval]) _ _ hrun6 ?_)
  rw [rounds_succ]
  go_wp2
  go_ret
  exact ⟨_, rfl, HB6.out, fin.out⟩
end Go.Proofs.YtikgicepdalfpaaGreat.W
/- casketlaw6's awake. -/
namespace Go.Proofs.YtikgicepdalfpaaGreat.W
open Go.ChangeShapes Go.WideShapes Go.RowKit Go.Shelf
set_option linter.unusedVariables false
def aw0 : List (Option Hc) := [some (.num 5)]
def aw1 : List (Option Hc) := [some (.num 5), some (.row [18445336698825998336, 9221120237041090560])]
theorem aw_need0 (i : Int) : (Hc.num i).need = 2 := by unfold Hc.need; rw [show (Hc.num i).bytes.length = 8 from le8_len _]
theorem aw_need1 : (Hc.row [18445336698825998336, 9221120237041090560]).need = 3 := by unfold Hc.need; rw [show (Hc.row [18445336698825998336, 9221120237041090560]).bytes.length = 16 from row_len _]
theorem aw_sum1 : sumH aw1 = 5 := by show (Hc.num 5).need + ((Hc.row _).need + 0) = 5; rw [aw_need0, aw_need1]
theorem aw_hit0 : hit aw1 18445336698825998336 = some 0 := by decide
theorem aw_hit1 : hit aw1 18445336698825998337 = some 1 := by decide
theorem aw_val : ∀ w ∈ [18445336698825998336, 9221120237041090560], isVal aw0 w = true := by decide
theorem aw_rch (rs : List Nat) : rchB aw1 ([18445336698825998337] ++ rs) = [true, true] := by
  refine needR_eq (H := aw1) (rchB_len _ _) rfl (fun i => ?_)
  rw [rchB_get]
  have h1 : Rch aw1 ([18445336698825998337] ++ rs) 1 := .root 18445336698825998337 1 (by simp) aw_hit1
  have h0 : Rch aw1 ([18445336698825998337] ++ rs) 0 := .step 1 0 18445336698825998336 (.row [18445336698825998336, 9221120237041090560]) h1 rfl (by simp [Hc.succ]) aw_hit0
  constructor
  · intro h
    obtain ⟨c, hc⟩ := h.live
    have : i < 2 := (List.getElem?_eq_some_iff.1 hc).1
    rcases (by omega : i = 0 ∨ i = 1) with rfl | rfl <;> rfl
  · intro h
    have : i < 2 := (List.getElem?_eq_some_iff.1 h).1
    rcases (by omega : i = 0 ∨ i = 1) with rfl | rfl
    · exact h0
    · exact h1
theorem aw_reach : reachN aw1 [18445336698825998337] = 5 := by
  have := aw_rch []
  rw [List.append_nil] at this
  unfold reachN
  rw [this]
  show (if true = true then (Hc.num 5).need else 0) + ((if true = true then (Hc.row _).need else 0) + 0) = 5
  rw [aw_need0, aw_need1]; rfl
theorem aw_room : roomH aw1 6 (.num 6) [18445336698825998337] = aw1 := by
  unfold roomH
  rw [aw_sum1, aw_need0, if_neg (by decide), aw_rch]
  rfl
theorem aw_put0 {W : World} {S : Nat → Prop} {hb : Nat} (g : HSt W S hb [] 6) (hS : ∀ k, S k → k < W.heap.size) :
    Calls Tryz.prog 15 #[.pointer (some ⟨hb, 0, none⟩), .agg #[.int .i64 2, .bool false, .int .i64 5, .string ⟨#[]⟩, .slice none 0 0, .slice none 0 0, .int .u64 0, .int .i64 0, .int .i64 0], .slice none 0 0] W fun e w' => e = .returned (.tuple #[.int .u64 18445336698825998336, .int .i64 0]) ∧ Upd S W w' ∧ HSt w' (Nx S W w') hb aw0 6 := by
  refine (put_num g hS 5 (by omega) (by omega) none none 0 0 (.slice none 0 0) [] (words_nil W _ _)).mono ?_
  intro e w' h
  exact h.fits (by rw [aw_need0]; decide)
theorem aw_put1 {W : World} {S : Nat → Prop} {hb : Nat} (g : HSt W S hb aw0 6) (hS : ∀ k, S k → k < W.heap.size) :
    Calls Tryz.prog 15 #[.pointer (some ⟨hb, 0, none⟩), .agg #[.int .i64 9, .bool false, .int .i64 0, .string ⟨#[]⟩, .slice none 0 0, .slice (some ⟨W.heap.size, 0, none⟩) 2 2, .int .u64 0, .int .i64 0, .int .i64 0], .slice (some ⟨W.heap.size + 1, 0, none⟩) 1 1] ((W.alloc (.cells #[.int .u64 18445336698825998336, .int .u64 9221120237041090560] 22)).alloc (.cells #[.int .u64 18445336698825998336] 22)) fun e w' => e = .returned (.tuple #[.int .u64 18445336698825998337, .int .i64 0]) ∧ Upd S W w' ∧ HSt w' (Nx S W w') hb aw1 6 := by
  have hB1 : Below W.heap.size W (W.alloc (.cells #[.int .u64 18445336698825998336, .int .u64 9221120237041090560] 22)) := (Below.refl _ W).alloc (Nat.le_refl _) _
  have hs1 : (W.alloc (.cells #[.int .u64 18445336698825998336, .int .u64 9221120237041090560] 22)).heap.size = W.heap.size + 1 := World.size_alloc ..
  have hB2 : Below (W.alloc (.cells #[.int .u64 18445336698825998336, .int .u64 9221120237041090560] 22)).heap.size (W.alloc (.cells #[.int .u64 18445336698825998336, .int .u64 9221120237041090560] 22)) ((W.alloc (.cells #[.int .u64 18445336698825998336, .int .u64 9221120237041090560] 22)).alloc (.cells #[.int .u64 18445336698825998336] 22)) := (Below.refl _ _).alloc (Nat.le_refl _) _
  have hs2 : (((W.alloc (.cells #[.int .u64 18445336698825998336, .int .u64 9221120237041090560] 22)).alloc (.cells #[.int .u64 18445336698825998336] 22))).heap.size = W.heap.size + 2 := by rw [World.size_alloc, hs1]
  have hB : Below W.heap.size W ((W.alloc (.cells #[.int .u64 18445336698825998336, .int .u64 9221120237041090560] 22)).alloc (.cells #[.int .u64 18445336698825998336] 22)) := hB1.trans (hB2.mono hB1.size)
  have hw := words_below (words_new W [18445336698825998336, 9221120237041090560] _ (by decide) (by decide) rfl 22) hB2
  have hr := words_new (W.alloc (.cells #[.int .u64 18445336698825998336, .int .u64 9221120237041090560] 22)) [18445336698825998336] _ (by decide) (by decide) rfl 22
  rw [hs1] at hr
  refine (put_row (g.below hB) (fun k e => by have := hS k e; omega) [18445336698825998336, 9221120237041090560] (by decide) (by decide) aw_val none (some ⟨W.heap.size, 0, none⟩) 0 2 hw ?_ _ _ hr).mono ?_
  · intro o n cap e k
    cases e
    rcases k with k | k
    · have := hS _ k; exact absurd this (Nat.lt_irrefl _)
    · have k' : (((W.alloc (.cells #[.int .u64 18445336698825998336, .int .u64 9221120237041090560] 22)).alloc (.cells #[.int .u64 18445336698825998336] 22))).heap.size ≤ W.heap.size := k
      omega
  · intro e w' h
    obtain ⟨h1, h2, h3⟩ := h.fits (by rw [aw_need1]; show (Hc.num 5).need + 0 + 3 ≤ 6; rw [aw_need0]; decide)
    have hz := h2.size
    refine ⟨h1, (Upd.of_below hB).trans' h2, h3.mono ?_⟩
    rintro k (e | e)
    · exact .inl e
    · exact .inr ⟨by omega, e.2⟩
theorem aw_put2 {W : World} {S : Nat → Prop} {hb : Nat} (g : HSt W S hb aw1 6) (hS : ∀ k, S k → k < W.heap.size) :
    Calls Tryz.prog 15 #[.pointer (some ⟨hb, 0, none⟩), .agg #[.int .i64 2, .bool false, .int .i64 6, .string ⟨#[]⟩, .slice none 0 0, .slice none 0 0, .int .u64 0, .int .i64 0, .int .i64 0], .slice (some ⟨W.heap.size, 0, none⟩) 1 1] (W.alloc (.cells #[.int .u64 18445336698825998337] 22)) fun e w' => e = .returned (.tuple #[.int .u64 0, .int .i64 40]) ∧ Upd S W w' ∧ HSt w' (Nx S W w') hb aw1 6 := by
  have hB1 : Below W.heap.size W (W.alloc (.cells #[.int .u64 18445336698825998337] 22)) := (Below.refl _ W).alloc (Nat.le_refl _) _
  have hs1 : (W.alloc (.cells #[.int .u64 18445336698825998337] 22)).heap.size = W.heap.size + 1 := World.size_alloc ..
  have hr := words_new W [18445336698825998337] _ (by decide) (by decide) rfl 22
  refine (put_num (g.below hB1) (fun k e => by have := hS k e; omega) 6 (by omega) (by omega) none none 0 0 _ _ hr).mono ?_
  intro e w' h
  rw [aw_room] at h
  obtain ⟨h1, h2, h3⟩ := h.not (by rw [aw_need0, aw_sum1]; decide)
  have hz := h2.size
  refine ⟨h1, (Upd.of_below hB1).trans' h2, h3.mono ?_⟩
  rintro k (e | e)
  · exact .inl e
  · exact .inr ⟨by omega, e.2⟩
theorem HSt.lt {W : World} {S : Nat → Prop} {hb : Nat} {H : List (Option Hc)} {u : Nat} {W' : World} (hS : ∀ k, S k → k < W.heap.size) (hU : Upd S W W') : ∀ k, Nx S W W' k → k < W'.heap.size := by
  rintro k (e | e)
  · have := hS k e; have := hU.size; omega
  · exact e.2
end Go.Proofs.YtikgicepdalfpaaGreat.W
/- A heap that a statement made itself, and what it keeps beside it; Box of a string; Concat, Sub. -/
namespace Go.Proofs.YtikgicepdalfpaaGreat.W
open Go.ChangeShapes Go.WideShapes Go.RowKit Go.Shelf
set_option linter.unusedVariables false
/-- a heap that was made behind W0; what K names is none of its -/
def Hf (W0 W : World) (hb : Nat) (H : List (Option Hc)) (u : Nat) (K : Nat → Prop) : Prop := Below W0.heap.size W0 W ∧ ∃ S, HSt W S hb H u ∧ (∀ k, S k → W0.heap.size ≤ k ∧ k < W.heap.size) ∧ (∀ k, K k → k < W.heap.size ∧ ¬ S k)
section
variable {W0 W W1 W' : World} {hb : Nat} {H : List (Option Hc)} {u : Nat} {K K' : Nat → Prop}
theorem Hf.bel (q : Hf W0 W hb H u K) : Below W0.heap.size W0 W := q.1
theorem Hf.sub (q : Hf W0 W hb H u K) (h : ∀ k, K' k → K k) : Hf W0 W hb H u K' := by
  obtain ⟨h1, S, h2, h3, h4⟩ := q
  exact ⟨h1, S, h2, h3, fun k e => h4 k (h k e)⟩
theorem Hf.below (q : Hf W0 W hb H u K) (hB : Below W.heap.size W W') : Hf W0 W' hb H u (fun k => K k ∨ (W.heap.size ≤ k ∧ k < W'.heap.size)) := by
  obtain ⟨h1, S, h2, h3, h4⟩ := q
  have z := hB.size
  refine ⟨h1.trans (hB.mono h1.size), S, h2.below hB, fun k e => ⟨(h3 k e).1, by have := (h3 k e).2; omega⟩, ?_⟩
  rintro k (e | e)
  · exact ⟨by have := (h4 k e).1; omega, (h4 k e).2⟩
  · exact ⟨e.2, fun e2 => by have := (h3 k e2).2; omega⟩
theorem Hf.below' (q : Hf W0 W hb H u K) (hB : Below W.heap.size W W') : Hf W0 W' hb H u K := (q.below hB).sub (fun k e => .inl e)
/-- what is kept aside may be written -/
theorem Hf.upd {D : Nat → Prop} (q : Hf W0 W hb H u K) (hU : Upd D W W') (hD : ∀ k, D k → K k ∧ W0.heap.size ≤ k) : Hf W0 W' hb H u K := by
  obtain ⟨h1, S, h2, h3, h4⟩ := q
  have z := hU.size
  refine ⟨h1.trans (hU.below h1.size (fun k e => (hD k e).2)), S, h2.on z (fun k e hl => hU.block k hl (fun d => (h4 k (hD k d).1).2 e)), fun k e => ⟨(h3 k e).1, by have := (h3 k e).2; omega⟩, fun k e => ⟨by have := (h4 k e).1; omega, (h4 k e).2⟩⟩
theorem hf_new (hB : Below W0.heap.size W0 W) (u : Nat) (hu : u ≤ 1048576) : Calls Tryz.prog 4 #[.int .i64 u] W fun e w' => ∃ hb, e = .returned (.tuple #[.pointer (some ⟨hb, 0, none⟩), .int .i64 0]) ∧ Hf W0 w' hb [] u (fun k => k < W.heap.size) ∧ Below W.heap.size W w' := by
  refine (hnew_c u hu W).mono ?_
  rintro e w' ⟨hb, rfl, hB', g⟩
  have h1 := hB.size
  have h2 := hB'.size
  exact ⟨hb, rfl, ⟨hB.trans (hB'.mono h1), _, g, fun k e => ⟨by omega, e.2⟩, fun k e => ⟨by omega, fun e2 => by omega⟩⟩, hB'⟩
/-- what may change -/
def Ch (W0 : World) (K : Nat → Prop) : Nat → Prop := fun k => ¬ K k ∧ W0.heap.size ≤ k
theorem Hf.put {S : Nat → Prop} {H' : List (Option Hc)} (h0 : Below W0.heap.size W0 W1) (h3 : ∀ k, S k → W0.heap.size ≤ k ∧ k < W1.heap.size) (h4 : ∀ k, K k → k < W1.heap.size ∧ ¬ S k) (hU : Upd S W1 W') (g : HSt W' (Nx S W1 W') hb H' u) : Hf W0 W' hb H' u K ∧ Upd (Ch W0 K) W1 W' := by
  have z := hU.size
  have z0 := h0.size
  refine ⟨⟨h0.trans (hU.below z0 (fun k e => (h3 k e).1)), _, g, ?_, fun k e => ⟨by have := (h4 k e).1; omega, ?_⟩⟩, ⟨hU.os, hU.tape, hU.output, hU.size, fun k hk hn => hU.block k hk (fun e => hn ⟨fun e2 => (h4 k e2).2 e, (h3 k e).1⟩)⟩⟩
  · rintro k (e | e)
    · exact ⟨(h3 k e).1, by have := (h3 k e).2; omega⟩
    · exact ⟨by omega, e.2⟩
  · rintro (e2 | e2)
    · exact (h4 k e).2 e2
    · have := (h4 k e).1; omega
/-- what a string needs -/
def tneed (t : ByteArray) : Nat := 1 + (t.size + 7) / 8
theorem hf_text (q : Hf W0 W1 hb H u K) (t : ByteArray) (hl : t.size ≤ 8388608) (hf : sumH H + tneed t ≤ u) (vr : Value) (rs : List Nat) (hr : WordsAt W1 vr rs) :
    Calls Tryz.prog 15 #[.pointer (some ⟨hb, 0, none⟩), .agg #[.int .i64 4, .bool false, .int .i64 0, .string t, .slice none 0 0, .slice none 0 0, .int .u64 0, .int .i64 0, .int .i64 0], vr] W1 fun e w' => e = .returned (.tuple #[.int .u64 (hw (lid H) : Nat), .int .i64 0]) ∧ Hf W0 w' hb (putH H (lid H) (some (.text (strB t)))) u K ∧ Upd (Ch W0 K) W1 w' := by
  obtain ⟨h1, S, h2, h3, h4⟩ := q
  refine (put_text h2 (fun k e => (h3 k e).2) t hl none none 0 0 vr rs hr).mono ?_
  intro e w' hP
  have hf' : sumH H + (Hc.text (strB t)).need ≤ u := by rw [text_need]; exact hf
  have hrm : roomH H u (.text (strB t)) rs = H := by unfold roomH; rw [if_pos hf']
  rw [hrm] at hP
  obtain ⟨hU, ⟨_, rfl, g⟩ | ⟨hn, _⟩⟩ := hP
  · exact ⟨rfl, Hf.put h1 h3 h4 hU g⟩
  · omega
/-- behind a string that was boxed -/
def TxtPost (W0 W1 : World) (hb : Nat) (H : List (Option Hc)) (u : Nat) (K : Nat → Prop) (t : ByteArray) (e : Ending) (w' : World) : Prop := ∃ (w : Nat) (H' : List (Option Hc)), e = .returned (.tuple #[.int .u64 (w : Nat), .int .i64 0]) ∧ Hf W0 w' hb H' u K ∧ Ext H H' ∧ IsTxt H' w t ∧ sumH H' ≤ sumH H + tneed t ∧ H'.length ≤ H.length + 1 ∧ Upd (Ch W0 K) W1 w'
theorem TxtPost.two {t : ByteArray} {e : Ending} (h : TxtPost W0 W1 hb H u K t e W') : ∃ x y, e = .returned (.tuple #[.int .u64 x, .int .i64 y]) := by
  obtain ⟨w, H', rfl, _⟩ := h
  exact ⟨_, _, rfl⟩
theorem boxText_t (q : Hf W0 W1 hb H u K) (vr : Value) (rs : List Nat) (hr : WordsAt W1 vr rs) (t : ByteArray) (hl : t.size ≤ 8388608) (hf : sumH H + tneed t ≤ u) (hH : H.length ≤ 1000000) : Calls Tryz.prog 22 #[.pointer (some ⟨hb, 0, none⟩), .string t, vr] W1 (TxtPost W0 W1 hb H u K t) := by
  by_cases hs : t.size ≤ 5
  · refine (boxText_small _ vr t hs W1).mono ?_
    rintro e w' ⟨rfl, rfl⟩
    have hb5 := cls_is5 _ (txtW_cls t hs)
    refine ⟨(txtW t).toNat, H, by rw [Int.toNat_of_nonneg (by omega)], q, Ext.refl _, .inl ⟨hs, Int.toNat_of_nonneg (by omega)⟩, by omega, by omega, Upd.refl _ _⟩
  · have cf := fromText_c t (by simp [maxLen]; omega) W1
    rw [decide_eq_false hs] at cf
    have h1 : ¬ (t.size : Int) > 8388608 := by omega
    have cp := hf_text q t hl hf vr rs hr
    have fin : Hid (∀ w2, Hf W0 w2 hb (putH H (lid H) (some (.text (strB t)))) u K → Upd (Ch W0 K) W1 w2 → TxtPost W0 W1 hb H u K t (.returned (.tuple #[.int .u64 (hw (lid H) : Nat), .int .i64 0])) w2) := by
      show ∀ w2, _
      intro w2 hq hU
      have h9 := lid_le H
      refine ⟨hw (lid H), _, rfl, hq, ext_put H _, .inr ⟨lid H, rfl, by omega, putH_self H _⟩, ?_, ?_, hU⟩
      · rw [putH_sum, text_need]; exact Nat.le_refl _
      · rw [putH_len]; split <;> omega
    generalize hw (lid H) = X at *
    clear q hr
    go_enter Tryz.func22, Tryz.ntmps22
    go_wp2_with (first | (go_at_call 42; (with_reducible refine cf.mono ?_); rintro e w' ⟨rfl, hw⟩; (have hw' := hw.symm); subst hw'; clear hw) | (go_at_call 15; (with_reducible refine cp.mono ?_); rintro e w2 ⟨rfl, hq, hU⟩; clear cp))
    go_ret2
    exact fin.out _ hq hU
theorem TxtPost.on {W2 : World} {t : ByteArray} {e : Ending} (hB : Below W1.heap.size W1 W2) (h : TxtPost W0 W2 hb H u K t e W') : TxtPost W0 W1 hb H u K t e W' := by
  obtain ⟨w, H', rfl, h1, h2, h3, h4, h5, h6⟩ := h
  exact ⟨w, H', rfl, h1, h2, h3, h4, h5, (Upd.of_below hB).trans' h6⟩
theorem boxT (q : Hf W0 W1 hb H u K) (vr : Value) (rs : List Nat) (hr : WordsAt W1 vr rs) (t : ByteArray) (hl : t.size ≤ 8388608) (hf : sumH H + tneed t ≤ u) (hH : H.length ≤ 1000000) : Calls Tryz.prog 6 #[.pointer (some ⟨hb, 0, none⟩), .agg #[.int .i64 4, .int .i64 0, .int .u64 0, .string t, .int .u64 0], vr] W1 (TxtPost W0 W1 hb H u K t) := by
  refine (box_text _ vr t (fun w e w' => TxtPost W0 w hb H u K t e w') (fun w e w' h => h.two) W1 (fun w hB => boxText_t (q.below' hB) vr rs (words_below hr hB) t hl hf hH)).mono ?_
  rintro e w' ⟨w, hB, h⟩
  exact h.on hB
end
end Go.Proofs.YtikgicepdalfpaaGreat.W
/- Package heap: place, of a view; Read, Write, of buffers and views; Set. -/
namespace Go.Proofs.YtikgicepdalfpaaGreat.W
open Go.ChangeShapes Go.WideShapes Go.RowKit Go.Shelf
set_option linter.unusedVariables false
section
variable {W W' : World} {hb sb : Nat} {vc : Value} {T : Nat → Prop} {H : List (Option Hc)} {u h : Nat}
set_option maxRecDepth 100000 in
set_option maxHeartbeats 1000000 in
theorem place_view (g : HLay W hb sb vc T H u h) (w : Nat) (hw : w < 18446744073709551616) (id : Nat) (hi : hit H w = some id) (k : Int) (ba p n : Nat) (hc : H[id]? = some (some (.view k ba p n))) (t : Nat) (hit2 : hit H ba = some t) (wd : Nat) (hwd : wd = 1 ∨ wd = 2 ∨ wd = 4 ∨ wd = 8) (off : Int) (ho0 : -9223372036854775808 ≤ off) (ho1 : off ≤ 9223372036854775807) :
    Calls Tryz.prog 138 #[.pointer (some ⟨hb, 0, none⟩), .int .u64 w, .int .i64 off, .int .i64 wd] W fun e w' => e = .returned (if 0 ≤ off ∧ off + wd ≤ (n * elB k : Nat) then .tuple #[.int .i64 t, .int .i64 (p + off), .int .i64 0] else .tuple #[.int .i64 0, .int .i64 0, .int .i64 31]) ∧ Below W.heap.size W w' := by
  have hidl : id < H.length := (List.getElem?_eq_some_iff.1 hc).1
  obtain ⟨b, cap, hvc, hcell, _⟩ := g.at hidl
  have c1 := g.cell 1
  simp only [List.getElem?_cons_succ, List.getElem?_cons_zero] at c1
  rw [hvc] at c1
  have k0 := hcell 0 _ hc (by omega)
  have k1 := hcell 1 _ hc (by omega)
  have k2 := hcell 2 _ hc (by omega)
  have k3 := hcell 3 _ hc (by omega)
  have k4 := hcell 4 _ hc (by omega)
  simp only [clO, Hc.cl, Cl.cells, List.getElem?_cons_succ, List.getElem?_cons_zero, Nat.add_zero] at k0 k1 k2 k3 k4
  have j0 : (0 : Int) ≤ id := by omega
  have j1 : (id : Int) < H.length := by omega
  have ok := g.ok id _ hc
  have hk : elB k > 0 := ok.1
  have hn8 : n ≤ 8388608 := ok.2.2.2
  have hp8 : p ≤ 8388608 := ok.2.2.1
  have hba : ba < 18446744073709551616 := ok.2.1
  clear hcell
  have hB1 : Below W.heap.size W (W.alloc (.cells #[.int .i64 k, .bool true, .int .u64 ba, .int .i64 p, .int .i64 n] 105)) := (Below.refl _ W).alloc (Nat.le_refl _) _
  have cf := find_c g w hw
  rw [hi] at cf
  simp only [Option.getD_some, Option.isSome_some] at cf
  have ce : ∀ w, Calls Tryz.prog 60 #[.int .i64 k] w fun e w' => e = .returned (.int .i64 (elB k : Nat)) ∧ w' = w := fun w => elementBytes_c k w
  have cb : Calls Tryz.prog 69 #[.pointer (some ⟨hb, 0, none⟩), .int .i64 id] (W.alloc (.cells #[.int .i64 k, .bool true, .int .u64 ba, .int .i64 p, .int .i64 n] 105)) fun e w' => e = .returned (.int .i64 0) ∧ w' = (W.alloc (.cells #[.int .i64 k, .bool true, .int .u64 ba, .int .i64 p, .int .i64 n] 105)) := bytes_c (g.below hB1) id _ hc
  have cf2 := find_c (g.below hB1) ba hba
  rw [hit2] at cf2
  simp only [Option.getD_some, Option.isSome_some] at cf2
  have e1 := World.cell?_alloc_new W #[.int .i64 k, .bool true, .int .u64 ba, .int .i64 p, .int .i64 n] 105
  have e0 : ¬ ((elB k : Nat) : Int) = 0 := by omega
  have hout : Hid (∀ m : Nat, Below W.heap.size W ((W.alloc (.cells #[.int .i64 k, .bool true, .int .u64 ba, .int .i64 p, .int .i64 n] 105)).drewN m)) := fun m => ⟨hB1.os, hB1.tape, hB1.output, hB1.size, hB1.block⟩
  have hel : elB k ≤ 8 := by rcases elB_cases k with h | h | h | h | h <;> omega
  have hmul : IntKind.i64.wrap ((n : Int) * ((elB k : Nat) : Int)) = ((n * elB k : Nat) : Int) := by
    have h1 : n * elB k ≤ n * 8 := Nat.mul_le_mul_left n hel
    have h2 : ((n * elB k : Nat) : Int) = (n : Int) * ((elB k : Nat) : Int) := by simp
    rw [IntKind.wrap_i64, ← h2]; omega
  have hnl : n * elB k ≤ 67108864 := by
    have h1 : n * elB k ≤ n * 8 := Nat.mul_le_mul_left n hel
    omega
  generalize n * elB k = nn at *
  generalize ((elB k : Nat) : Int) = E at *
  clear hel
  have hsub : IntKind.i64.wrap ((nn : Int) - wd) = (nn : Int) - wd := by rw [IntKind.wrap_i64]; omega
  have hz : 0 ≤ off → off + wd ≤ nn → IntKind.i64.wrap ((p : Int) + off) = (p : Int) + off := by intro a1 a2; rw [IntKind.wrap_i64]; omega
  have hd : (wd : Int) = 1 ∨ (wd : Int) = 2 ∨ (wd : Int) = 4 ∨ (wd : Int) = 8 := by omega
  clear hwd
  generalize ((wd : Nat) : Int) = d at *
  by_cases hlo : off < 0
  · rw [if_neg (by omega)]
    clear hz
    rcases hd with rfl | rfl | rfl | rfl
    all_goals (
      clear g ok hc hB1
      go_enter Tryz.func138, Tryz.ntmps138
      go_upto_region 10 with (first | (go_at_call 68; (with_reducible refine cf.mono ?_); rintro e w' ⟨rfl, hw⟩; (have hw' := hw.symm); subst hw'; clear hw; clear cf) | (go_at_call 68; (with_reducible refine cf2.mono ?_); rintro e w' ⟨rfl, hw⟩; (have hw' := hw.symm); subst hw'; clear hw) | (go_at_call 60; (with_reducible refine (ce _).mono ?_); rintro e w' ⟨rfl, hw⟩; (have hw' := hw.symm); subst hw'; clear hw) | (go_at_call 69; (with_reducible refine cb.mono ?_); rintro e w' ⟨rfl, hw⟩; (have hw' := hw.symm); subst hw'; clear hw))
      go_quiet ((go_at_call 60; exact Calls.quiet_of_same (ce _)))
      go_wp2
      go_ret3
      exact ⟨rfl, ⟨(hout.out 0).os, (hout.out 0).tape, (hout.out 0).output, (hout.out 0).size, (hout.out 0).block⟩⟩)
  · by_cases hhi : off + d ≤ nn
    · rw [if_pos ⟨by omega, hhi⟩]
      have g1 : ¬ off > (nn : Int) - d := by omega
      have hz := hz (by omega) hhi
      clear hhi
      rcases hd with rfl | rfl | rfl | rfl
      all_goals (
        clear g ok hc hB1
        go_enter Tryz.func138, Tryz.ntmps138
        go_upto_region 10 with (first | (go_at_call 68; (with_reducible refine cf.mono ?_); rintro e w' ⟨rfl, hw⟩; (have hw' := hw.symm); subst hw'; clear hw; clear cf) | (go_at_call 68; (with_reducible refine cf2.mono ?_); rintro e w' ⟨rfl, hw⟩; (have hw' := hw.symm); subst hw'; clear hw) | (go_at_call 60; (with_reducible refine (ce _).mono ?_); rintro e w' ⟨rfl, hw⟩; (have hw' := hw.symm); subst hw'; clear hw) | (go_at_call 69; (with_reducible refine cb.mono ?_); rintro e w' ⟨rfl, hw⟩; (have hw' := hw.symm); subst hw'; clear hw))
        go_quiet ((go_at_call 60; exact Calls.quiet_of_same (ce _)))
        go_upto_region 13 with fail
        go_quiet (fail)
        go_wp2
        go_ret3
        exact ⟨rfl, ⟨(hout.out 0).os, (hout.out 0).tape, (hout.out 0).output, (hout.out 0).size, (hout.out 0).block⟩⟩)
    · rw [if_neg (by omega)]
      have g1 : off > (nn : Int) - d := by omega
      clear hhi hz
      rcases hd with rfl | rfl | rfl | rfl
      all_goals (
        clear g ok hc hB1
        go_enter Tryz.func138, Tryz.ntmps138
        go_upto_region 10 with (first | (go_at_call 68; (with_reducible refine cf.mono ?_); rintro e w' ⟨rfl, hw⟩; (have hw' := hw.symm); subst hw'; clear hw; clear cf) | (go_at_call 68; (with_reducible refine cf2.mono ?_); rintro e w' ⟨rfl, hw⟩; (have hw' := hw.symm); subst hw'; clear hw) | (go_at_call 60; (with_reducible refine (ce _).mono ?_); rintro e w' ⟨rfl, hw⟩; (have hw' := hw.symm); subst hw'; clear hw) | (go_at_call 69; (with_reducible refine cb.mono ?_); rintro e w' ⟨rfl, hw⟩; (have hw' := hw.symm); subst hw'; clear hw))
        go_quiet ((go_at_call 60; exact Calls.quiet_of_same (ce _)))
        go_wp2
        go_ret3
        exact ⟨rfl, ⟨(hout.out 0).os, (hout.out 0).tape, (hout.out 0).output, (hout.out 0).size, (hout.out 0).block⟩⟩)
/-- where the elements of a thing of bytes stand: cell t, of kind k2 and with the bytes bs, from p on; n bytes -/
structure Spot (H : List (Option Hc)) (w : Nat) (k : Int) (t p n : Nat) (k2 : Int) (bs : List Nat) : Prop where
  w64 : w < 18446744073709551616
  cell : H[t]? = some (some (.buf k2 bs))
  fit : p + n ≤ bs.length
  road : ∃ id, hit H w = some id ∧ ((H[id]? = some (some (.buf k bs)) ∧ t = id ∧ p = 0 ∧ n = bs.length ∧ k2 = k) ∨ ∃ ba c, H[id]? = some (some (.view k ba p c)) ∧ hit H ba = some t ∧ n = c * elB k)
theorem place_c {w : Nat} {k k2 : Int} {t p n : Nat} {bs : List Nat} (g : HLay W hb sb vc T H u h) (s : Spot H w k t p n k2 bs) (wd : Nat) (hwd : wd = 1 ∨ wd = 2 ∨ wd = 4 ∨ wd = 8) (off : Int) (ho0 : -9223372036854775808 ≤ off) (ho1 : off ≤ 9223372036854775807) :
    Calls Tryz.prog 138 #[.pointer (some ⟨hb, 0, none⟩), .int .u64 w, .int .i64 off, .int .i64 wd] W fun e w' => e = .returned (if 0 ≤ off ∧ off + wd ≤ n then .tuple #[.int .i64 t, .int .i64 (p + off), .int .i64 0] else .tuple #[.int .i64 0, .int .i64 0, .int .i64 31]) ∧ Below W.heap.size W w' := by
  obtain ⟨id, hi, ⟨hc, rfl, rfl, rfl, rfl⟩ | ⟨ba, c, hc, hb2, rfl⟩⟩ := s.road
  · have := place_buf g w s.w64 t hi k2 bs hc wd hwd off ho0 ho1
    rw [show (((0 : Nat) : Int) + off) = off by omega]
    exact this
  · exact place_view g w s.w64 id hi k ba p c hc t hb2 wd hwd off ho0 ho1
theorem hread_c {w : Nat} {k k2 : Int} {t p n : Nat} {bs : List Nat} (g : HLay W hb sb vc T H u h) (s : Spot H w k t p n k2 bs) (wd : Nat) (hwd : wd = 1 ∨ wd = 2 ∨ wd = 4 ∨ wd = 8) (o : Nat) (ho : o + wd ≤ n) (ha : (p + o) % wd = 0) :
    Calls Tryz.prog 121 #[.pointer (some ⟨hb, 0, none⟩), .int .u64 w, .int .i64 o, .int .i64 wd] W fun e w' => e = .returned (.tuple #[.int .u64 (leN (seg bs (p + o) wd) : Nat), .int .i64 0]) ∧ Below W.heap.size W w' := by
  have hok := g.ok t _ s.cell
  have hl8 : bs.length ≤ 8388608 := hok.2.2
  have hfit := s.fit
  have cp := place_c g s wd hwd o (by omega) (by omega)
  rw [if_pos ⟨by omega, by omega⟩, show ((p : Int) + (o : Int)) = ((p + o : Nat) : Int) by omega] at cp
  have cl : ∀ w', Below W.heap.size W w' → Calls Tryz.prog 111 #[.pointer (some ⟨sb, 0, none⟩), .int .i64 t, .int .i64 (p + o : Nat), .int .i64 wd] w' fun e w2 => e = .returned (.tuple #[.int .u64 (leN (seg bs (p + o) wd)), .int .i64 0]) ∧ Below w'.heap.size w' w2 := fun w' hB => load_st (g.below hB).st t _ (hA_some s.cell) (p + o) wd hwd ha (by show _ ≤ bs.length; omega)
  have c0 := g.cell 0
  simp only [List.getElem?_cons_zero] at c0
  generalize leN (seg bs (p + o) wd) = X at *
  generalize p + o = P at *
  clear g hok hl8 hfit ha s ho hwd
  go_enter Tryz.func121, Tryz.ntmps121
  go_wp2_with (first | (go_at_call 138; (with_reducible refine cp.mono ?_); rintro e w2 ⟨rfl, hB2⟩; clear cp; (have d0 := below_cell hB2 c0)) | (go_at_call 111; (with_reducible refine (cl _ hB2).mono ?_); rintro e w3 ⟨rfl, hB3⟩; clear cl))
  go_ret2
  exact ⟨rfl, hB2.trans (hB3.mono hB2.size)⟩
theorem hwrite_c {w : Nat} {k k2 : Int} {t p n : Nat} {bs : List Nat} (g : HLay W hb sb vc T H u h) (s : Spot H w k t p n k2 bs) (wd : Nat) (hwd : wd = 1 ∨ wd = 2 ∨ wd = 4 ∨ wd = 8) (o : Nat) (ho : o + wd ≤ n) (ha : (p + o) % wd = 0) (x : Nat) (hx : x < 18446744073709551616) :
    Calls Tryz.prog 123 #[.pointer (some ⟨hb, 0, none⟩), .int .u64 w, .int .i64 o, .int .i64 wd, .int .u64 x] W fun e w' => e = .returned (.int .i64 0) ∧ Upd T W w' ∧ HLay w' hb sb vc T (H.set t (some (.buf k2 (saved bs (p + o) x wd)))) u h := by
  have hok := g.ok t _ s.cell
  have hl8 : bs.length ≤ 8388608 := hok.2.2
  have hfit := s.fit
  have cp := place_c g s wd hwd o (by omega) (by omega)
  rw [if_pos ⟨by omega, by omega⟩, show ((p : Int) + (o : Int)) = ((p + o : Nat) : Int) by omega] at cp
  have hok2 : (Hc.buf k2 (saved bs (p + o) x wd)).ok := ⟨hok.1, saved_byte _ _ _ _ hok.2.1, by rw [saved_len]; exact hl8⟩
  have cl : ∀ w', Below W.heap.size W w' → Calls Tryz.prog 114 #[.pointer (some ⟨sb, 0, none⟩), .int .i64 t, .int .i64 (p + o : Nat), .int .i64 wd, .int .u64 x] w' fun e w2 => e = .returned (.int .i64 0) ∧ Hid (Upd T W w2 ∧ HLay w2 hb sb vc T (H.set t (some (.buf k2 (saved bs (p + o) x wd)))) u h) := by
    intro w' hB
    refine (save_st (g.below hB).st t _ (hA_some s.cell) (p + o) wd x hx hwd ha (by show _ ≤ bs.length; omega)).mono ?_
    rintro e w2 ⟨rfl, hU, hS⟩
    exact ⟨rfl, (Upd.of_below hB).trans' hU, (g.below hB).saved t _ (.buf k2 (saved bs (p + o) x wd)) s.cell rfl hok2 hU hS⟩
  have c0 := g.cell 0
  simp only [List.getElem?_cons_zero] at c0
  generalize (some (Hc.buf k2 (saved bs (p + o) x wd))) = X at *
  generalize p + o = P at *
  clear g hok hl8 hfit ha s ho hwd hok2
  go_enter Tryz.func123, Tryz.ntmps123
  go_wp2_with (first | (go_at_call 138; (with_reducible refine cp.mono ?_); rintro e w2 ⟨rfl, hB2⟩; clear cp; (have d0 := below_cell hB2 c0)) | (go_at_call 114; (with_reducible refine (cl _ hB2).mono ?_); rintro e w3 ⟨rfl, hf⟩; clear cl))
  go_ret
  exact ⟨rfl, hf.out.1, hf.out.2⟩
theorem hwrite_out {w : Nat} {k k2 : Int} {t p n : Nat} {bs : List Nat} (g : HLay W hb sb vc T H u h) (s : Spot H w k t p n k2 bs) (wd : Nat) (hwd : wd = 1 ∨ wd = 2 ∨ wd = 4 ∨ wd = 8) (off : Int) (ho0 : -9223372036854775808 ≤ off) (ho1 : off ≤ 9223372036854775807) (hout : ¬ (0 ≤ off ∧ off + wd ≤ n)) (x : Int) :
    Calls Tryz.prog 123 #[.pointer (some ⟨hb, 0, none⟩), .int .u64 w, .int .i64 off, .int .i64 wd, .int .u64 x] W fun e w' => e = .returned (.int .i64 31) ∧ Below W.heap.size W w' := by
  have cp := place_c g s wd hwd off ho0 ho1
  rw [if_neg hout] at cp
  clear g s ho0 ho1 hwd hout
  go_enter Tryz.func123, Tryz.ntmps123
  go_wp2_with (go_at_call 138; (with_reducible refine cp.mono ?_); rintro e w2 ⟨rfl, hB2⟩; clear cp)
  go_ret
  exact ⟨rfl, hB2⟩
theorem hset_c (g : HLay W hb sb vc T H u h) (w : Nat) (hw : w < 18446744073709551616) (id : Nat) (hi : hit H w = some id) (ws : List Nat) (hc : H[id]? = some (some (.row ws))) (j : Nat) (hj : j < ws.length) (x : Nat) (hx : x < 18446744073709551616) (hv : isVal H x = true) :
    Calls Tryz.prog 99 #[.pointer (some ⟨hb, 0, none⟩), .int .u64 w, .int .i64 j, .int .u64 x] W fun e w' => e = .returned (.int .i64 0) ∧ Upd T W w' ∧ HLay w' hb sb vc T (H.set id (some (.row (ws.set j x)))) u h := by
  have hidl : id < H.length := (List.getElem?_eq_some_iff.1 hc).1
  obtain ⟨b, cap, hvc, hcell, _⟩ := g.at hidl
  have c1 := g.cell 1
  have c0 := g.cell 0
  simp only [List.getElem?_cons_succ, List.getElem?_cons_zero] at c1 c0
  rw [hvc] at c1
  have k0 := hcell 0 _ hc (by omega)
  simp only [clO, Hc.cl, Cl.cells, List.getElem?_cons_zero, Nat.add_zero] at k0
  have j0 : (0 : Int) ≤ id := by omega
  have j1 : (id : Int) < H.length := by omega
  have hok := g.ok id _ hc
  have hl8 : ws.length ≤ 1048576 := hok.2
  have cf := find_c g w hw
  rw [hi] at cf
  simp only [Option.getD_some, Option.isSome_some] at cf
  have cb : Calls Tryz.prog 69 #[.pointer (some ⟨hb, 0, none⟩), .int .i64 id] W fun e w' => e = .returned (.int .i64 ((ws.flatMap le8).length : Nat)) ∧ w' = W := bytes_c g id _ hc
  rw [row_len] at cb
  have ci := isValue_c g x hx
  rw [hv] at ci
  have cs := row_step g id ws hc j x hj hx
  have w8 : IntKind.i64.wrap ((j : Int) * 8) = (j : Int) * 8 := by rw [IntKind.wrap_i64]; omega
  have q8 : Int.tdiv ((8 * ws.length : Nat) : Int) 8 = ((ws.length : Nat) : Int) := by rw [Int.tdiv_eq_ediv_of_nonneg (by omega)]; omega
  have q9 : wrap64 ((ws.length : Nat) : Int) = ((ws.length : Nat) : Int) := by have := IntKind.wrap_i64 ((ws.length : Nat) : Int); unfold wrap64; omega
  have q7 : IntKind.i64.wrap ((ws.length : Nat) : Int) = ((ws.length : Nat) : Int) := by rw [IntKind.wrap_i64]; omega
  have x0 : ¬ (j : Int) < 0 := by omega
  have x1 : ¬ (j : Int) ≥ (ws.length : Nat) := by omega
  generalize H.set id (some (.row (ws.set j x))) = HH at *
  clear hcell hok hl8 hc hi g hj
  generalize ((8 * ws.length : Nat) : Int) = N8 at *
  generalize ((ws.length : Nat) : Int) = N at *
  go_enter Tryz.func99, Tryz.ntmps99
  go_wp2_with (first | (go_at_call 68; (with_reducible refine cf.mono ?_); rintro e w' ⟨rfl, hw⟩; (have hw' := hw.symm); subst hw'; clear hw) | (go_at_call 69; (with_reducible refine cb.mono ?_); rintro e w' ⟨rfl, hw⟩; (have hw' := hw.symm); subst hw'; clear hw) | (go_at_call 101; (with_reducible refine ci.mono ?_); rintro e w' ⟨rfl, hw⟩; (have hw' := hw.symm); subst hw'; clear hw) | (go_at_call 114; (with_reducible refine cs.mono ?_); rintro e w3 ⟨rfl, hU, hL⟩; clear cs))
  go_ret
  exact ⟨rfl, hU, hL⟩
end
/-- a cell is another one of the same need: over a heap that was made -/
theorem sumH_same {H : List (Option Hc)} {i : Nat} {c d : Hc} (hc : H[i]? = some (some c)) (hn : d.need = c.need) : sumH (H.set i (some d)) = sumH H := by
  have hl := (List.getElem?_eq_some_iff.1 hc).1
  have e := (List.getElem?_eq_some_iff.1 hc).2
  have := sumH_set H i (some d) hl
  rw [e] at this
  simp only [needO] at this
  omega
section
variable {W0 W W1 W' : World} {hb : Nat} {H : List (Option Hc)} {u : Nat} {K : Nat → Prop}
/-- what a call that writes into the store leaves, told over Hf -/
theorem hf_calls {f : FuncId} {args : Array Value} {v : Value} {H' : List (Option Hc)} (q : Hf W0 W1 hb H u K) (hs : sumH H' = sumH H)
    (h : ∀ sb vc T, HLay W1 hb sb vc T H u (sumH H) → Calls Tryz.prog f args W1 fun e w' => e = .returned v ∧ Upd T W1 w' ∧ HLay w' hb sb vc T H' u (sumH H)) :
    Calls Tryz.prog f args W1 fun e w' => e = .returned v ∧ Hf W0 w' hb H' u K ∧ Upd (Ch W0 K) W1 w' := by
  obtain ⟨h1, S, ⟨sb, vc, T, l, s1, s2, s3, s4⟩, h3, h4⟩ := q
  refine (h sb vc T l).mono ?_
  rintro e w' ⟨rfl, hU, hL⟩
  have hU' : Upd S W1 w' := hU.mono s3
  have hst : HSt w' (Nx S W1 w') hb H' u := ⟨sb, vc, T, by rw [hs]; exact hL, .inl s1, fun k e => .inl (s2 k e), fun k e => .inl (s3 k e), by omega⟩
  exact ⟨rfl, Hf.put h1 h3 h4 hU' hst⟩
theorem buf_need (k k' : Int) (b b' : List Nat) (h : b'.length = b.length) : (Hc.buf k' b').need = (Hc.buf k b).need := by
  unfold Hc.need
  show 1 + (b'.length + 7) / 8 = 1 + (b.length + 7) / 8
  rw [h]
theorem row_need2 (b b' : List Nat) (h : b'.length = b.length) : (Hc.row b').need = (Hc.row b).need := by
  unfold Hc.need
  show 1 + ((b'.flatMap le8).length + 7) / 8 = 1 + ((b.flatMap le8).length + 7) / 8
  rw [row_len, row_len, h]
theorem hf_write {w : Nat} {k k2 : Int} {t p n : Nat} {bs : List Nat} (q : Hf W0 W1 hb H u K) (s : Spot H w k t p n k2 bs) (wd : Nat) (hwd : wd = 1 ∨ wd = 2 ∨ wd = 4 ∨ wd = 8) (o : Nat) (ho : o + wd ≤ n) (ha : (p + o) % wd = 0) (x : Nat) (hx : x < 18446744073709551616) :
    Calls Tryz.prog 123 #[.pointer (some ⟨hb, 0, none⟩), .int .u64 w, .int .i64 o, .int .i64 wd, .int .u64 x] W1 fun e w' => e = .returned (.int .i64 0) ∧ Hf W0 w' hb (H.set t (some (.buf k2 (saved bs (p + o) x wd)))) u K ∧ Upd (Ch W0 K) W1 w' :=
  hf_calls q (sumH_same s.cell (buf_need _ _ _ _ (saved_len _ _ _ _))) (fun sb vc T l => hwrite_c l s wd hwd o ho ha x hx)
theorem hf_set (q : Hf W0 W1 hb H u K) (w : Nat) (hw : w < 18446744073709551616) (id : Nat) (hi : hit H w = some id) (ws : List Nat) (hc : H[id]? = some (some (.row ws))) (j : Nat) (hj : j < ws.length) (x : Nat) (hx : x < 18446744073709551616) (hv : isVal H x = true) :
    Calls Tryz.prog 99 #[.pointer (some ⟨hb, 0, none⟩), .int .u64 w, .int .i64 j, .int .u64 x] W1 fun e w' => e = .returned (.int .i64 0) ∧ Hf W0 w' hb (H.set id (some (.row (ws.set j x)))) u K ∧ Upd (Ch W0 K) W1 w' :=
  hf_calls q (sumH_same hc (row_need2 _ _ (by rw [List.length_set]))) (fun sb vc T l => hset_c l w hw id hi ws hc j hj x hx hv)
theorem Hf.lay (q : Hf W0 W1 hb H u K) : ∃ sb vc T, HLay W1 hb sb vc T H u (sumH H) := by
  obtain ⟨_, S, h2, _⟩ := q
  exact h2.lay
end
end Go.Proofs.YtikgicepdalfpaaGreat.W
/- Package text: box, Concat, Sub. -/
namespace Go.Proofs.YtikgicepdalfpaaGreat.W
open Go.ChangeShapes Go.WideShapes Go.RowKit Go.Shelf
set_option linter.unusedVariables false
section
variable {W0 W W1 W' : World} {hb : Nat} {H : List (Option Hc)} {u : Nat} {K K' : Nat → Prop}
end
end Go.Proofs.YtikgicepdalfpaaGreat.W
/- casketlaw8: awake, box. -/
namespace Go.Proofs.YtikgicepdalfpaaGreat.W
open Go.ChangeShapes Go.WideShapes Go.RowKit Go.Shelf
set_option linter.unusedVariables false
theorem words_lit (w : World) (ws : List Nat) (hl : ws.length ≤ 1000000) (h : ∀ x ∈ ws, x < 18446744073709551616) : WordsAt (w.alloc (.cells (ws.map (fun x => Value.int .u64 (x : Nat))).toArray 22)) (.slice (some ⟨w.heap.size, 0, none⟩) ws.length ws.length) ws := by
  have e0 := World.cell?_alloc_new w (ws.map (fun x => Value.int .u64 (x : Nat))).toArray 22
  refine ⟨_, _, rfl, by omega, h, fun i hi => ⟨_, rfl, ?_⟩⟩
  have e1 : ((⟨w.heap.size, 0, none⟩ : Addr).add i) = ⟨w.heap.size, i, none⟩ := by unfold Addr.add; split <;> simp_all
  rw [e1, e0 i]
  simp [hi]
theorem words_nil' (w : World) : WordsAt w (.slice none 0 0) [] := words_nil w none 0
theorem abc_abc : (⟨#[97, 98, 99]⟩ : ByteArray) ++ ⟨#[97, 98, 99]⟩ = ⟨#[97, 98, 99, 97, 98, 99]⟩ := by decide
section
variable {W0 W W1 W' : World} {hb : Nat} {H : List (Option Hc)} {u : Nat} {K K' : Nat → Prop}
end
end Go.Proofs.YtikgicepdalfpaaGreat.W
/- A row of words of a statement's own, beside its heap: append. -/
namespace Go.Proofs.YtikgicepdalfpaaGreat.W
open Go.ChangeShapes Go.WideShapes Go.RowKit Go.Shelf
set_option linter.unusedVariables false
/-- words, as they stand in a row -/
def wds (ws : List Nat) : List Value := ws.map (fun x => .int .u64 (x : Nat))
section
variable {W0 W W1 W' : World} {hb : Nat} {H : List (Option Hc)} {u : Nat} {K K' : Nat → Prop}
theorem Hf.upd' {D : Nat → Prop} (q : Hf W0 W hb H u K) (hU : Upd D W W') (hD : ∀ k, D k → K k ∧ W0.heap.size ≤ k) : Hf W0 W' hb H u (fun k => K k ∨ (W.heap.size ≤ k ∧ k < W'.heap.size)) := by
  obtain ⟨h1, S, h2, h3, h4⟩ := q
  have z := hU.size
  refine ⟨h1.trans (hU.below h1.size (fun k e => (hD k e).2)), S, h2.on z (fun k e hl => hU.block k hl (fun d => (h4 k (hD k d).1).2 e)), fun k e => ⟨(h3 k e).1, by have := (h3 k e).2; omega⟩, ?_⟩
  rintro k (e | e)
  · exact ⟨by have := (h4 k e).1; omega, (h4 k e).2⟩
  · exact ⟨e.2, fun e2 => by have := (h3 k e2).2; omega⟩
/-- a row of words of one's own -/
structure Mine (W0 W : World) (K : Nat → Prop) (v : Value) (ws : List Nat) : Prop where
  row : W.ownsRow W0.heap.size 22 1 v ws.length (wds ws)
  keep : ∀ k, v.ownBlock = some k → K k
  lt : ∀ x ∈ ws, x < 18446744073709551616
  len : ws.length ≤ 900000
theorem Mine.words {v : Value} {ws : List Nat} (o : Mine W0 W K v ws) : WordsAt W v ws := words_own o.row (by have := o.len; omega) o.lt
theorem Mine.upd {v : Value} {ws : List Nat} (o : Mine W0 W K v ws) (hU : Upd (Ch W0 K) W W') : Mine W0 W' K v ws :=
  ⟨owns_on o.row (fun k e => hU.block k (o.row.lt k e).2 (fun h => h.1 (o.keep k e))), o.keep, o.lt, o.len⟩
theorem Mine.below {v : Value} {ws : List Nat} (o : Mine W0 W K v ws) (hB : Below W.heap.size W W') : Mine W0 W' K v ws :=
  ⟨owns_on o.row (fun k e => hB.block k (o.row.lt k e).2), o.keep, o.lt, o.len⟩
theorem Mine.sub {v : Value} {ws : List Nat} (o : Mine W0 W K v ws) (h : ∀ k, K k → K' k) : Mine W0 W K' v ws := ⟨o.row, fun k e => h k (o.keep k e), o.lt, o.len⟩
theorem mine_nil (W0 W : World) (K : Nat → Prop) : Mine W0 W K (.slice none 0 0) [] := ⟨World.ownsRow_nil _ _ _ _, fun k e => (by cases e), fun x h => (by cases h), by decide⟩
theorem mine_lit (hB : W0.heap.size ≤ W.heap.size) (ws : List Nat) (h : ∀ x ∈ ws, x < 18446744073709551616) (hl : ws.length ≤ 900000) : Mine W0 (W.alloc (.cells (wds ws).toArray 22)) (fun k => W.heap.size ≤ k ∧ k < (W.alloc (.cells (wds ws).toArray 22)).heap.size) (.slice (some ⟨W.heap.size, 0, none⟩) ws.length ws.length) ws := by
  have hz : (wds ws).length = ws.length := by unfold wds; simp
  have h1 := World.ownsRow_lit (base := W0.heap.size) (e := 22) (size := 1) W (wds ws).toArray ws.length hB (by unfold maxLen; omega) (by simp [hz])
  refine ⟨by simpa using h1, fun k e => ?_, h, hl⟩
  cases e
  exact ⟨Nat.le_refl _, by rw [World.size_alloc]; exact Nat.lt_succ_self _⟩
/-- a word is put behind -/
theorem mine_append (q : Hf W0 W hb H u K) (ty : TypeId) (v : Value) (ws : List Nat) (o : Mine W0 W K v ws) (x : Nat) (hx : x < 18446744073709551616) (hl : ws.length < 900000) :
    ∃ v' w', (Builtin.append_ #[27, 27] ty #[v, .slice (some ⟨W.heap.size, 0, none⟩) 1 1]).run Tryz.prog (W.alloc (.cells #[.int .u64 (x : Nat)] 22)) = .ok v' w' ∧ Hf W0 w' hb H u (fun k => K k ∨ (W.heap.size ≤ k ∧ k < w'.heap.size)) ∧ Mine W0 w' (fun k => K k ∨ (W.heap.size ≤ k ∧ k < w'.heap.size)) v' (ws ++ [x]) ∧ Upd (fun k => v.ownBlock = some k) W w' := by
  obtain ⟨i0, hi, hz0, hz1, hz2⟩ := info_parts infoW
  have hB1 : Below W.heap.size W (W.alloc (.cells #[.int .u64 (x : Nat)] 22)) := (Below.refl _ W).alloc (Nat.le_refl _) _
  have z1 : (W.alloc (.cells #[.int .u64 (x : Nat)] 22)).heap.size = W.heap.size + 1 := World.size_alloc ..
  have e0 := World.cell?_alloc_new W #[.int .u64 (x : Nat)] 22
  have ho := o.row.alloc (.cells #[.int .u64 (x : Nat)] 22)
  obtain ⟨v', w', hrun, ho', hg, hk⟩ := append_at (P := Tryz.prog) (W.alloc (.cells #[.int .u64 (x : Nat)] 22)) 27 ty 22 i0 (.int .u64 0) 1 8 underW hi hz0 hz1 hz2 rfl (by omega) v ws.length (wds ws) (owns_base ho (fun _ _ => Nat.zero_le _)) ⟨W.heap.size, 0, none⟩ 1 1 [.int .u64 (x : Nat)] (by simp) (by
    intro j y hj
    have hj0 : j = 0 := by have := (List.getElem?_eq_some_iff.1 hj).1; simp at this; exact this
    subst hj0
    simp at hj
    subst hj
    have e1 : ((⟨W.heap.size, 0, none⟩ : Addr).add 0) = ⟨W.heap.size, 0, none⟩ := by unfold Addr.add; split <;> simp_all
    rw [e1, e0 0]; rfl) (by intro y hy; simp at hy; rw [hy]; rfl) (by omega) (by omega) (by omega)
  have hlo : ∀ k, v.ownBlock = some k → W0.heap.size ≤ k ∧ k < W.heap.size := fun k e => o.row.lt k e
  have q0 := q.1.size
  have hU1 : Upd (fun k => v.ownBlock = some k) (W.alloc (.cells #[.int .u64 (x : Nat)] 22)) w' := (Upd.refl _ _).grown hg (fun k e => .inl e)
  have hU : Upd (fun k => v.ownBlock = some k) W w' := (Upd.of_below hB1).trans' hU1
  refine ⟨v', w', hrun, q.upd' hU (fun k e => ⟨o.keep k e, (hlo k e).1⟩), ⟨?_, ?_, ?_, by simp; omega⟩, hU⟩
  · have := owns_base ho' (b' := W0.heap.size) (fun g e => by rcases hk g e with e | e
                                                              · exact (hlo g e).1
                                                              · omega)
    unfold wds at *
    rw [List.length_append, List.map_append]
    exact this
  · intro k e
    rcases hk k e with e | e
    · exact .inl (o.keep k e)
    · exact .inr ⟨by omega, e.2⟩
  · intro y hy
    rcases List.mem_append.1 hy with h | h
    · exact o.lt y h
    · simp at h; rw [h]; exact hx
end
/-- behind casketlaw8's box -/
def LPost (W0 : World) (hb : Nat) (H : List (Option Hc)) (u : Nat) (K : Nat → Prop) (t : ByteArray) (e : Ending) (w' : World) : Prop := ∃ (w : Nat) (H' : List (Option Hc)), e = .returned (.tuple #[.int .u64 (w : Nat), .bool true]) ∧ Hf W0 w' hb H' u K ∧ Ext H H' ∧ IsTxt H' w t ∧ sumH H' ≤ sumH H + tneed t ∧ H'.length ≤ H.length + 1
section
variable {W0 W W1 W' : World} {hb : Nat} {H : List (Option Hc)} {u : Nat} {K K' : Nat → Prop}
end
theorem tn_le (t : ByteArray) (n : Nat) (h : t.size ≤ n) : tneed t ≤ 1 + (n + 7) / 8 := by unfold tneed; omega
end Go.Proofs.YtikgicepdalfpaaGreat.W
/- Box, told whole: of numbers, doubles and strings, beside what is kept; what all of it takes. -/
namespace Go.Proofs.YtikgicepdalfpaaGreat.W
open Go.ChangeShapes Go.WideShapes Go.RowKit Go.Shelf
set_option linter.unusedVariables false
/-- each cell is a root -/
def AllR (H : List (Option Hc)) (ws : List Nat) : Prop := ∀ (i : Nat) (c : Hc), H[i]? = some (some c) → ∃ w ∈ ws, hit H w = some i
theorem hit_ext {H H' : List (Option Hc)} (he : Ext H H') {w i : Nat} (h : hit H w = some i) : hit H' w = some i := by
  unfold hit at h ⊢
  split at h
  · rename_i c
    cases h
    have : ∃ x, H[w % 281474976710656]? = some (some x) := by
      have c2 := c.2
      cases e : H[w % 281474976710656]? with
      | none => rw [e] at c2; cases c2
      | some o => cases o with
        | none => rw [e] at c2; cases c2
        | some x => exact ⟨x, rfl⟩
    obtain ⟨x, hx⟩ := this
    rw [if_pos ⟨c.1, by rw [he _ _ hx]; rfl⟩]
  · cases h
theorem allR_put {H : List (Option Hc)} {ws : List Nat} (h : AllR H ws) (c : Hc) (hl : lid H < 281474976710656) : AllR (putH H (lid H) (some c)) (ws ++ [hw (lid H)]) := by
  intro i x hx
  by_cases e : i = lid H
  · subst e
    exact ⟨hw (lid H), by simp, hit_hw hl (putH_self H _)⟩
  · rw [putH_ne H _ i e] at hx
    obtain ⟨w, hw1, hw2⟩ := h i x hx
    exact ⟨w, List.mem_append_left _ hw1, hit_ext (ext_put H c) hw2⟩
theorem allR_snoc {H : List (Option Hc)} {ws : List Nat} (h : AllR H ws) (w : Nat) : AllR H (ws ++ [w]) := by
  intro i x hx
  obtain ⟨v, h1, h2⟩ := h i x hx
  exact ⟨v, List.mem_append_left _ h1, h2⟩
theorem allR_reach {H : List (Option Hc)} {ws : List Nat} (h : AllR H ws) : reachN H ws = sumH H := by
  have := zip_all (H := H) (ws := ws) (fun i c hc => by obtain ⟨w, h1, h2⟩ := h i c hc; exact .root w i h1 h2)
  unfold reachN
  rw [← zipK_sum, this]
/-- a word of a whole number -/
def IsInt (H : List (Option Hc)) (w : Nat) (i : Int) : Prop := (smallB i = true ∧ (w : Int) = intW i) ∨ ∃ id, w = hw id ∧ id < 281474976710656 ∧ H[id]? = some (some (.num i))
theorem IsInt.ext {H H' : List (Option Hc)} {w : Nat} {i : Int} (h : IsInt H w i) (he : Ext H H') : IsInt H' w i := by
  rcases h with h | ⟨id, h1, h2, h3⟩
  · exact .inl h
  · exact .inr ⟨id, h1, h2, he _ _ h3⟩
theorem IsInt.cls {H : List (Option Hc)} {w : Nat} {i : Int} (h : IsInt H w i) : ¬ cls (w : Int) = 7 := by
  rcases h with ⟨h1, h2⟩ | ⟨id, rfl, h2, h3⟩
  · rw [h2, intW_cls i h1]; decide
  · rw [cls_hw id h2]; decide
theorem IsTxt.cls {H : List (Option Hc)} {w : Nat} {t : ByteArray} (h : IsTxt H w t) : ¬ W.cls (w : Int) = 7 := by
  rcases h with ⟨h1, h2⟩ | ⟨id, rfl, h2, h3⟩
  · rw [h2, txtW_cls t h1]; decide
  · rw [cls_hw id h2]; decide
/-- what a whole number takes -/
def nI (i : Int) : Nat := if smallB i = true then 0 else 2
/-- what a string takes -/
def nT (t : ByteArray) : Nat := if t.size ≤ 5 then 0 else tneed t
theorem num_need (i : Int) : (Hc.num i).need = 2 := by
  unfold Hc.need
  rw [show (Hc.num i).bytes.length = 8 from le8_len _]
/-- behind a value that was boxed -/
def BPost (W0 W1 : World) (hb : Nat) (H : List (Option Hc)) (u : Nat) (K : Nat → Prop) (V : List (Option Hc) → Nat → Prop) (n : Nat) (e : Ending) (w' : World) : Prop := ∃ (w : Nat) (H' : List (Option Hc)), e = .returned (.tuple #[.int .u64 (w : Nat), .int .i64 0]) ∧ Hf W0 w' hb H' u K ∧ Ext H H' ∧ V H' w ∧ sumH H' = sumH H + n ∧ H'.length ≤ H.length + 1 ∧ (∀ ws, AllR H ws → AllR H' (ws ++ [w])) ∧ w < 18446744073709551616 ∧ Upd (Ch W0 K) W1 w'
section
variable {W0 W W1 W' : World} {hb : Nat} {H : List (Option Hc)} {u : Nat} {K K' : Nat → Prop}
theorem BPost.two {V : List (Option Hc) → Nat → Prop} {n : Nat} {e : Ending} (h : BPost W0 W1 hb H u K V n e W') : ∃ x y, e = .returned (.tuple #[.int .u64 x, .int .i64 y]) := by
  obtain ⟨w, H', rfl, _⟩ := h
  exact ⟨_, _, rfl⟩
theorem BPost.on {W2 : World} {V : List (Option Hc) → Nat → Prop} {n : Nat} {e : Ending} (hB : Below W1.heap.size W1 W2) (h : BPost W0 W2 hb H u K V n e W') : BPost W0 W1 hb H u K V n e W' := by
  obtain ⟨w, H', rfl, h1, h2, h3, h4, h5, h6, h7, h8⟩ := h
  exact ⟨w, H', rfl, h1, h2, h3, h4, h5, h6, h7, (Upd.of_below hB).trans' h8⟩
theorem hf_num (q : Hf W0 W1 hb H u K) (i : Int) (h0 : -9223372036854775808 ≤ i) (h1 : i < 9223372036854775808) (hf : sumH H + 2 ≤ u) (vr : Value) (rs : List Nat) (hr : WordsAt W1 vr rs) :
    Calls Tryz.prog 15 #[.pointer (some ⟨hb, 0, none⟩), .agg #[.int .i64 2, .bool false, .int .i64 i, .string ⟨#[]⟩, .slice none 0 0, .slice none 0 0, .int .u64 0, .int .i64 0, .int .i64 0], vr] W1 fun e w' => e = .returned (.tuple #[.int .u64 (hw (lid H) : Nat), .int .i64 0]) ∧ Hf W0 w' hb (putH H (lid H) (some (.num i))) u K ∧ Upd (Ch W0 K) W1 w' := by
  obtain ⟨g1, S, h2, h3, h4⟩ := q
  refine (put_num h2 (fun k e => (h3 k e).2) i h0 h1 none none 0 0 vr rs hr).mono ?_
  intro e w' hP
  have hf' : sumH H + (Hc.num i).need ≤ u := by rw [num_need]; exact hf
  have hrm : roomH H u (.num i) rs = H := by unfold roomH; rw [if_pos hf']
  rw [hrm] at hP
  obtain ⟨hU, ⟨_, rfl, g⟩ | ⟨hn, _⟩⟩ := hP
  · exact ⟨rfl, Hf.put g1 h3 h4 hU g⟩
  · omega
theorem boxInt_b (q : Hf W0 W1 hb H u K) (vr : Value) (rs : List Nat) (hr : WordsAt W1 vr rs) (i : Int) (h0 : -9223372036854775808 ≤ i) (h1 : i ≤ 9223372036854775807) (hf : sumH H + 2 ≤ u) (hH : H.length ≤ 1000000) : Calls Tryz.prog 20 #[.pointer (some ⟨hb, 0, none⟩), .int .i64 i, vr] W1 (BPost W0 W1 hb H u K (fun H' w => IsInt H' w i) (nI i)) := by
  by_cases hs : smallB i = true
  · refine (boxInt_small _ vr i h0 h1 hs W1).mono ?_
    rintro e w' ⟨rfl, rfl⟩
    have hbd := intW_bd i hs
    exact ⟨(intW i).toNat, H, by rw [Int.toNat_of_nonneg (by omega)], q, Ext.refl _, .inl ⟨hs, Int.toNat_of_nonneg (by omega)⟩, by unfold nI; rw [if_pos hs]; omega, by omega, fun ws h => allR_snoc h _, by omega, Upd.refl _ _⟩
  · have cf := fromInt_c i h0 h1 W1
    have hs' : smallB i = false := by simpa using hs
    rw [hs'] at cf
    have cp := hf_num q i h0 (by omega) hf vr rs hr
    have fin : Hid (∀ w2, Hf W0 w2 hb (putH H (lid H) (some (.num i))) u K → Upd (Ch W0 K) W1 w2 → BPost W0 W1 hb H u K (fun H' w => IsInt H' w i) (nI i) (.returned (.tuple #[.int .u64 (hw (lid H) : Nat), .int .i64 0])) w2) := by
      show ∀ w2, _
      intro w2 hq hU
      have h9 := lid_le H
      refine ⟨hw (lid H), _, rfl, hq, ext_put H _, .inr ⟨lid H, rfl, by omega, putH_self H _⟩, ?_, ?_, fun ws h => allR_put h _ (by omega), hw_lt _ (by omega), hU⟩
      · unfold nI; rw [putH_sum, num_need, if_neg hs]
      · rw [putH_len]; split <;> omega
    generalize hw (lid H) = X at *
    clear q hr hs
    go_enter Tryz.func20, Tryz.ntmps20
    go_wp2_with (first | (go_at_call 40; (with_reducible refine cf.mono ?_); rintro e w' ⟨rfl, hw⟩; (have hw' := hw.symm); subst hw'; clear hw) | (go_at_call 15; (with_reducible refine cp.mono ?_); rintro e w2 ⟨rfl, hq, hU⟩; clear cp))
    go_ret2
    exact fin.out _ hq hU
theorem boxI (q : Hf W0 W1 hb H u K) (vr : Value) (rs : List Nat) (hr : WordsAt W1 vr rs) (i : Int) (h0 : -9223372036854775808 ≤ i) (h1 : i ≤ 9223372036854775807) (hf : sumH H + 2 ≤ u) (hH : H.length ≤ 1000000) : Calls Tryz.prog 6 #[.pointer (some ⟨hb, 0, none⟩), .agg #[.int .i64 2, .int .i64 i, .int .u64 0, .string ⟨#[]⟩, .int .u64 0], vr] W1 (BPost W0 W1 hb H u K (fun H' w => IsInt H' w i) (nI i)) := by
  refine (box_int _ vr i (fun w e w' => BPost W0 w hb H u K (fun H' w => IsInt H' w i) (nI i) e w') (fun w e w' h => h.two) W1 (fun w hB => boxInt_b (q.below' hB) vr rs (words_below hr hB) i h0 h1 hf hH)).mono ?_
  rintro e w' ⟨w, hB, h⟩
  exact h.on hB
theorem boxF (q : Hf W0 W1 hb H u K) (vr : Value) (bi : Int) (h0 : 0 ≤ bi) (h1 : bi < 18446744073709551616) : Calls Tryz.prog 6 #[.pointer (some ⟨hb, 0, none⟩), .agg #[.int .i64 3, .int .i64 0, .int .u64 bi, .string ⟨#[]⟩, .int .u64 0], vr] W1 (BPost W0 W1 hb H u K (fun _ w => (w : Int) = fltW bi) 0) := by
  refine (box_float _ vr bi h0 h1 W1).mono ?_
  rintro e w' ⟨rfl, hB⟩
  have hbd := fltW_bd bi h0 h1
  exact ⟨(fltW bi).toNat, H, by rw [Int.toNat_of_nonneg hbd.1], q.below' hB, Ext.refl _, Int.toNat_of_nonneg hbd.1, by omega, by omega, fun ws h => allR_snoc h _, by omega, Upd.of_below hB⟩
theorem boxText_b (q : Hf W0 W1 hb H u K) (vr : Value) (rs : List Nat) (hr : WordsAt W1 vr rs) (t : ByteArray) (hl : t.size ≤ 8388608) (hf : sumH H + tneed t ≤ u) (hH : H.length ≤ 1000000) : Calls Tryz.prog 22 #[.pointer (some ⟨hb, 0, none⟩), .string t, vr] W1 (BPost W0 W1 hb H u K (fun H' w => IsTxt H' w t) (nT t)) := by
  by_cases hs : t.size ≤ 5
  · refine (boxText_small _ vr t hs W1).mono ?_
    rintro e w' ⟨rfl, rfl⟩
    have hb5 := cls_is5 _ (txtW_cls t hs)
    exact ⟨(txtW t).toNat, H, by rw [Int.toNat_of_nonneg (by omega)], q, Ext.refl _, .inl ⟨hs, Int.toNat_of_nonneg (by omega)⟩, by unfold nT; rw [if_pos hs]; omega, by omega, fun ws h => allR_snoc h _, by omega, Upd.refl _ _⟩
  · have cf := fromText_c t (by simp [maxLen]; omega) W1
    rw [decide_eq_false hs] at cf
    have h1 : ¬ (t.size : Int) > 8388608 := by omega
    have cp := hf_text q t hl hf vr rs hr
    have fin : Hid (∀ w2, Hf W0 w2 hb (putH H (lid H) (some (.text (strB t)))) u K → Upd (Ch W0 K) W1 w2 → BPost W0 W1 hb H u K (fun H' w => IsTxt H' w t) (nT t) (.returned (.tuple #[.int .u64 (hw (lid H) : Nat), .int .i64 0])) w2) := by
      show ∀ w2, _
      intro w2 hq hU
      have h9 := lid_le H
      refine ⟨hw (lid H), _, rfl, hq, ext_put H _, .inr ⟨lid H, rfl, by omega, putH_self H _⟩, ?_, ?_, fun ws h => allR_put h _ (by omega), hw_lt _ (by omega), hU⟩
      · unfold nT; rw [putH_sum, text_need, if_neg hs]; rfl
      · rw [putH_len]; split <;> omega
    generalize hw (lid H) = X at *
    clear q hr hs
    go_enter Tryz.func22, Tryz.ntmps22
    go_wp2_with (first | (go_at_call 42; (with_reducible refine cf.mono ?_); rintro e w' ⟨rfl, hw⟩; (have hw' := hw.symm); subst hw'; clear hw) | (go_at_call 15; (with_reducible refine cp.mono ?_); rintro e w2 ⟨rfl, hq, hU⟩; clear cp))
    go_ret2
    exact fin.out _ hq hU
theorem boxS (q : Hf W0 W1 hb H u K) (vr : Value) (rs : List Nat) (hr : WordsAt W1 vr rs) (t : ByteArray) (hl : t.size ≤ 8388608) (hf : sumH H + tneed t ≤ u) (hH : H.length ≤ 1000000) : Calls Tryz.prog 6 #[.pointer (some ⟨hb, 0, none⟩), .agg #[.int .i64 4, .int .i64 0, .int .u64 0, .string t, .int .u64 0], vr] W1 (BPost W0 W1 hb H u K (fun H' w => IsTxt H' w t) (nT t)) := by
  refine (box_text _ vr t (fun w e w' => BPost W0 w hb H u K (fun H' w => IsTxt H' w t) (nT t) e w') (fun w e w' h => h.two) W1 (fun w hB => boxText_b (q.below' hB) vr rs (words_below hr hB) t hl hf hH)).mono ?_
  rintro e w' ⟨w, hB, h⟩
  exact h.on hB
theorem unbox_int {S : Nat → Prop} (q : HSt W1 S hb H u) (w : Nat) (i : Int) (h : IsInt H w i) :
    Calls Tryz.prog 25 #[.pointer (some ⟨hb, 0, none⟩), .int .u64 w] W1 fun e w' => e = .returned (.tuple #[.agg #[.int .i64 2, .int .i64 i, .int .u64 0, .string ⟨#[]⟩, .int .u64 0], .int .i64 0]) ∧ Below W1.heap.size W1 w' := by
  rcases h with ⟨h1, h2⟩ | ⟨id, rfl, h2, h3⟩
  · rw [h2]; exact unbox_sint i h1 _ W1
  · obtain ⟨sb, vc, T, l, _⟩ := q
    exact unbox_num l (hw id) (hw_lt id h2) (cls_hw id h2) id (hit_hw h2 h3) i h3
/-- a copy of a row of words -/
theorem copy_run (ty : TypeId) (v : Value) (ws : List Nat) (h : WordsAt W1 v ws) (hl : ws.length ≤ 900000) : ∃ v' w', (Builtin.append_ #[27, 27] ty #[.slice (some ⟨W1.heap.size, 0, none⟩) 0 0, v]).run Tryz.prog (W1.alloc (.cells #[] 22)) = .ok v' w' ∧ WordsAt w' v' ws ∧ Below W1.heap.size W1 w' := by
  have hB1 : Below W1.heap.size W1 (W1.alloc (.cells #[] 22)) := (Below.refl _ W1).alloc (Nat.le_refl _) _
  have h0 := World.ownsRow_lit (base := W1.heap.size) (e := 22) (size := 1) W1 #[] 0 (Nat.le_refl _) (by simp) (by simp)
  obtain ⟨v', w', hrun, ho, hg⟩ := app_words (W1.alloc (.cells #[] 22)) W1.heap.size ty hB1.size (.slice (some ⟨W1.heap.size, 0, none⟩) 0 0) 0 [] h0 v ws (words_below h hB1) (by omega)
  have hU : Upd (fun k => W1.heap.size ≤ k) (W1.alloc (.cells #[] 22)) w' := (Upd.refl _ _).grown hg (fun k e => .inl (by cases e; exact Nat.le_refl _))
  have h64 := h.choose_spec.choose_spec.2.2.1
  refine ⟨v', w', hrun, words_own (B := W1.heap.size) (by simpa using ho) (by omega) h64, hB1.trans (hU.below hB1.size (fun k e => e))⟩
end
end Go.Proofs.YtikgicepdalfpaaGreat.W
/- Put of buffers and rows, beside what a statement keeps. -/
namespace Go.Proofs.YtikgicepdalfpaaGreat.W
open Go.ChangeShapes Go.WideShapes Go.RowKit Go.Shelf
set_option linter.unusedVariables false
section
variable {W0 W W1 W' : World} {hb : Nat} {H : List (Option Hc)} {u : Nat} {K K' : Nat → Prop}
/-- whatever is put and fits -/
theorem Hf.fits {S : Nat → Prop} {c : Hc} {rs : List Nat} {e : Ending} {w' : World} (h1 : Below W0.heap.size W0 W1) (h3 : ∀ k, S k → W0.heap.size ≤ k ∧ k < W1.heap.size) (h4 : ∀ k, K k → k < W1.heap.size ∧ ¬ S k) (hf : sumH H + c.need ≤ u) (hP : PutPost W1 S hb (roomH H u c rs) u c e w') : e = .returned (.tuple #[.int .u64 (hw (lid H) : Nat), .int .i64 0]) ∧ Hf W0 w' hb (putH H (lid H) (some c)) u K ∧ Upd (Ch W0 K) W1 w' := by
  have hrm : roomH H u c rs = H := by unfold roomH; rw [if_pos hf]
  rw [hrm] at hP
  obtain ⟨hU, ⟨_, rfl, g⟩ | ⟨hn, _⟩⟩ := hP
  · exact ⟨rfl, Hf.put h1 h3 h4 hU g⟩
  · omega
theorem hf_buf (q : Hf W0 W1 hb H u K) (k : Int) (hk : elB k > 0) (bs : List Nat) (hb256 : ∀ x ∈ bs, x < 256) (hl : bs.length ≤ 8388608) (hmod : bs.length % elB k = 0) (ob ow : Option Addr) (bc wc : Nat) (hcap : bs.length ≤ bc) (hv : ByteRow W1 ob bs) (ho : ∀ x, ob = some x → K x.block) (hf : sumH H + (Hc.buf k bs).need ≤ u) (vr : Value) (rs : List Nat) (hr : WordsAt W1 vr rs) :
    Calls Tryz.prog 15 #[.pointer (some ⟨hb, 0, none⟩), .agg #[.int .i64 k, .bool false, .int .i64 0, .string ⟨#[]⟩, .slice ob bs.length bc, .slice ow 0 wc, .int .u64 0, .int .i64 0, .int .i64 0], vr] W1 fun e w' => e = .returned (.tuple #[.int .u64 (hw (lid H) : Nat), .int .i64 0]) ∧ Hf W0 w' hb (putH H (lid H) (some (.buf k bs))) u K ∧ Upd (Ch W0 K) W1 w' := by
  obtain ⟨h1, S, h2, h3, h4⟩ := q
  exact (put_buf h2 (fun k e => (h3 k e).2) k hk bs hb256 hl hmod ob ow bc wc hcap hv (fun x e => ⟨(h4 _ (ho x e)).2, (h4 _ (ho x e)).1⟩) vr rs hr).mono (fun e w' hP => Hf.fits h1 h3 h4 hf hP)
theorem hf_row (q : Hf W0 W1 hb H u K) (ws : List Nat) (hl : ws.length ≤ 1048576) (hv64 : ∀ w ∈ ws, w < 18446744073709551616) (hval : ∀ w ∈ ws, isVal H w = true) (ow : Option Addr) (wc : Nat) (hv : WordsAt W1 (.slice ow ws.length wc) ws) (ho : ∀ x, ow = some x → K x.block) (hf : sumH H + (Hc.row ws).need ≤ u) (vr : Value) (rs : List Nat) (hr : WordsAt W1 vr rs) :
    Calls Tryz.prog 15 #[.pointer (some ⟨hb, 0, none⟩), .agg #[.int .i64 9, .bool false, .int .i64 0, .string ⟨#[]⟩, .slice none 0 0, .slice ow ws.length wc, .int .u64 0, .int .i64 0, .int .i64 0], vr] W1 fun e w' => e = .returned (.tuple #[.int .u64 (hw (lid H) : Nat), .int .i64 0]) ∧ Hf W0 w' hb (putH H (lid H) (some (.row ws))) u K ∧ Upd (Ch W0 K) W1 w' := by
  obtain ⟨h1, S, h2, h3, h4⟩ := q
  refine (put_row h2 (fun k e => (h3 k e).2) ws hl hv64 hval none ow 0 wc hv ?_ vr rs hr).mono (fun e w' hP => Hf.fits h1 h3 h4 hf hP)
  intro o n cap e k
  cases e
  have := h4 _ (ho o rfl)
  rcases k with k | k
  · exact this.2 k
  · omega
end
end Go.Proofs.YtikgicepdalfpaaGreat.W
/- slices.AppendSeq over a row's words; load and Get, of a row. -/
namespace Go.Proofs.YtikgicepdalfpaaGreat.W
open Go.ChangeShapes Go.WideShapes Go.RowKit Go.Shelf
set_option linter.unusedVariables false
/-- an append in a round -/
theorem gi_append {P : Program} {F : Fence} {n : Nat} {L : Option Nat} (w : World) {o : Oper} {a : Act} {K : Act → World → Prop} {Q : Exit → Act → World → Prop} (s x : Operand) (t tn : TypeId)
    (ho : o.op = .call { callee := .builtin .append, args := #[s, x], argTypes := #[t, tn] }) (vs vx : Value) (hs : a.eval s = vs) (hx : a.eval x = vx)
    (v' : Value) (w' : World) (hr : (Builtin.append_ #[t, tn] o.type #[vs, vx]).run P w = .ok v' w') (h : K (a.put o.dst v') w') : o.uponIn F n P a K Q ((Oper.semAt L a.eval o).run P w) := by
  rw [Oper.semAt_eq _ _ _ (fun c e => by rw [ho] at e; cases e)]
  unfold execOp
  simp only [ho, resolve, invoke, builtin, Sem.run_bind, Sem.run_pure, Result.andThen_ok, List.map_toArray, List.map_cons, List.map_nil, hs, hx, hr]
  exact h
/-- a word is put behind a row of words -/
theorem append_one (W : World) (ty : TypeId) (v : Value) (n : Nat) (xs : List Value) {B0 : Nat} (hown : W.ownsRow B0 22 1 v n xs) (x : Nat) (hn : n ≤ 2000000) : ∃ v' w', (Builtin.append_ #[27, 27] ty #[v, .slice (some ⟨W.heap.size, 0, none⟩) 1 1]).run Tryz.prog (W.alloc (.cells #[.int .u64 (x : Nat)] 22)) = .ok v' w' ∧ w'.ownsRow 0 22 1 v' (n + 1) (xs ++ [.int .u64 (x : Nat)]) ∧ (W.alloc (.cells #[.int .u64 (x : Nat)] 22)).grownBy w' v.ownBlock ∧ (∀ k, v'.ownBlock = some k → v.ownBlock = some k ∨ ((W.alloc (.cells #[.int .u64 (x : Nat)] 22)).heap.size ≤ k ∧ k < w'.heap.size)) := by
  obtain ⟨i0, hi, hz0, hz1, hz2⟩ := info_parts infoW
  have e0 := World.cell?_alloc_new W #[.int .u64 (x : Nat)] 22
  have ho := hown.alloc (.cells #[.int .u64 (x : Nat)] 22)
  exact append_at (P := Tryz.prog) (W.alloc (.cells #[.int .u64 (x : Nat)] 22)) 27 ty 22 i0 (.int .u64 0) 1 8 underW hi hz0 hz1 hz2 rfl (by omega) v n xs (owns_base ho (fun _ _ => Nat.zero_le _)) ⟨W.heap.size, 0, none⟩ 1 1 [.int .u64 (x : Nat)] (by simp) (by
    intro j y hj
    have hj0 : j = 0 := by have := (List.getElem?_eq_some_iff.1 hj).1; simp at this; exact this
    subst hj0
    simp at hj
    subst hj
    have e1 : ((⟨W.heap.size, 0, none⟩ : Addr).add 0) = ⟨W.heap.size, 0, none⟩ := by unfold Addr.add; split <;> simp_all
    rw [e1, e0 0]; rfl) (by intro y hy; simp at hy; rw [hy]; rfl) (by omega) (by omega) (by omega)
section
variable {W W' : World} {hb sb : Nat} {vc : Value} {T : Nat → Prop} {H : List (Option Hc)} {u h : Nat}
/-- along AppendSeq: i words are there -/
structure AqI (B0 : Nat) (W : World) (hb sb : Nat) (vc : Value) (T : Nat → Prop) (H : List (Option Hc)) (u h id Bh Bi Bs : Nat) (ws : List Nat) (i : Nat) (W' : World) : Prop where
  lay : HLay W' hb sb vc T H u h
  b0 : Boxed W' Bh 23 (.pointer (some ⟨hb, 0, none⟩))
  b1 : Boxed W' Bi 3 (.int .i64 id)
  s : ∃ v, Boxed W' Bs 27 v ∧ W'.ownsRow B0 22 1 v i ((ws.take i).map (fun x => .int .u64 (x : Nat)))
  bel : Below B0 W W'
theorem AqI.upd {B0 id Bh Bi Bs i : Nat} {ws : List Nat} {w2 : World} {S : Nat → Prop} (hlo : hb < B0 ∧ (∀ k, vc.ownBlock = some k → k < B0) ∧ ∀ k, T k → k < B0) (q : AqI B0 W hb sb vc T H u h id Bh Bi Bs ws i W') (hu : Upd S W' w2) (hS : ∀ k, S k → B0 ≤ k) (h0 : ¬ S Bh) (h1 : ¬ S Bi) (h2 : ¬ S Bs) (h3 : ∀ v, Boxed W' Bs 27 v → ∀ k, v.ownBlock = some k → ¬ S k) (hz : B0 ≤ W.heap.size) : AqI B0 W hb sb vc T H u h id Bh Bi Bs ws i w2 := by
  obtain ⟨v, hv1, hv2⟩ := q.s
  have z := q.bel.size
  refine ⟨q.lay.upd hu (fun e => by have := hS _ e; omega) (fun k e e2 => by have := hlo.2.1 k e; have := hS _ e2; omega) (fun k e e2 => by have := hlo.2.2 k e; have := hS _ e2; omega), box_of (hu.block _ q.b0.lt h0) q.b0, box_of (hu.block _ q.b1.lt h1) q.b1, ⟨v, box_of (hu.block _ hv1.lt h2) hv1, owns_on hv2 (fun k e => hu.block k (hv2.lt k e).2 (h3 v hv1 k e))⟩, q.bel.trans (hu.below (by omega) hS)⟩
set_option maxRecDepth 100000 in
set_option maxHeartbeats 1000000 in
theorem appendSeq_c (g : HLay W hb sb vc T H u h) (id : Nat) (ws : List Nat) (hrow : H[id]? = some (some (.row ws))) (hl : ws.length ≤ 1048576) (h64 : ∀ x ∈ ws, x < 18446744073709551616) (B0 : Nat) (hz : B0 ≤ W.heap.size) (hlo : hb < B0 ∧ (∀ k, vc.ownBlock = some k → k < B0) ∧ ∀ k, T k → k < B0) (Bh Bi : Nat) (x0 : Boxed W Bh 23 (.pointer (some ⟨hb, 0, none⟩))) (x1 : Boxed W Bi 3 (.int .i64 id)) (hBh : B0 ≤ Bh) (hBi : B0 ≤ Bi) (v0 : Value) (hown : W.ownsRow B0 22 1 v0 0 []) :
    Calls Tryz.prog 119 #[v0, .func (.func 110) #[] #[.pointer (some ⟨Bh, 0, none⟩), .pointer (some ⟨Bi, 0, none⟩)]] W fun e w' => ∃ v, e = .returned v ∧ Below B0 W w' ∧ w'.ownsRow B0 22 1 v ws.length (ws.map (fun x => .int .u64 (x : Nat))) := by
  obtain ⟨ov, cv, hv0⟩ := slice_of (owns_base hown (b' := 0) (fun _ _ => Nat.zero_le _))
  subst hv0
  refine (callsIn_wide (n := 9)).1 ?_
  refine callsIn_of_wp_marks Tryz.func119 rfl trivial ?_ rfl
  refine wpIn_wide.2 ?_
  simp only [Tryz.ntmps119, List.size_toArray, List.length_cons, List.length_nil, Nat.reduceAdd, Nat.reduceSub, Array.replicate_succ, Array.replicate_zero, List.push_toArray, List.append_toArray, List.nil_append, List.cons_append]
  go_wp2
  have bA : Below W.heap.size W (W.alloc (.cells #[.slice ov 0 cv] 27)) := (Below.refl _ W).alloc (Nat.le_refl _) _
  have q0 : AqI B0 W hb sb vc T H u h id Bh Bi W.heap.size ws 0 (W.alloc (.cells #[.slice ov 0 cv] 27)) := ⟨g.below bA, box_of (bA.block _ x0.lt) x0, box_of (bA.block _ x1.lt) x1, ⟨_, Boxed.new _ _ _, by simpa using hown.alloc _⟩, bA.mono hz⟩
  have zA : (W.alloc (.cells #[.slice ov 0 cv] 27)).heap.size = W.heap.size + 1 := World.size_alloc ..
  have ltB := x0.lt
  have ltI := x1.lt
  generalize W.alloc (.cells #[.slice ov 0 cv] 27) = WA at *
  refine words_law (hb := hb) (sb := sb) (vc := vc) (T := T) (u := u) (h := h) (pt := 7) (W0 := WA) (Bh := Bh) (Bi := Bi) (id := id) ws hrow rfl (fun i W' => AqI B0 W hb sb vc T H u h id Bh Bi W.heap.size ws i W' ∧ ∀ v, Boxed W' W.heap.size 27 v → ∀ k, v.ownBlock = some k → k ≠ WA.heap.size ∧ k ≠ WA.heap.size + 1) (fun _ _ => False) ?hL ?hI (fun c W W' h _ => h) ?h0 5 ?assign ?body ?done (fun c W h => h.elim)
  case h0 =>
    refine ⟨q0, fun v hv k e => ?_⟩
    obtain ⟨v', h1, h2⟩ := q0.s
    have e1 : v = v' := by
      unfold Boxed at hv h1
      rw [hv] at h1
      simpa using h1
    subst e1
    have := (h2.lt k e).2
    omega
  case hL =>
    rintro i W' ⟨q, _⟩
    exact ⟨q.lay, q.b0.cell, q.b1.cell⟩
  case hI =>
    rintro i Wa Wb ⟨q, hq⟩ hu
    refine ⟨q.upd hlo hu (fun k e => by omega) (by omega) (by omega) (by omega) (fun v hv k e => (hq v hv k e).2) hz, fun v hv k e => ?_⟩
    have hv' : Boxed Wa W.heap.size 27 v := by
      obtain ⟨v', h1, _⟩ := q.s
      exact (hu.block _ h1.lt (by omega)).symm.trans hv
    exact hq v hv' k e
  case assign =>
    intro L x W' K hK
    gi_wp2_with (simp only [Oper.semAt]; go_simp)
    exact hK
  case done =>
    rintro W' ⟨q, hq⟩ hD
    obtain ⟨v, hv1, hv2⟩ := q.s
    rw [List.take_of_length_le (Nat.le_refl _)] at hv2
    have c2 := hv1.cell
    obtain ⟨o9, c9, e9⟩ := slice_of (owns_base hv2 (b' := 0) (fun _ _ => Nat.zero_le _))
    subst e9
    have Q := hid q
    have HV := hid hv2
    have hkn := hid (hq _ hv1)
    clear q hv1 hv2 hq
    generalize hnn : ws.length = nn at *
    go_wp2
    refine ⟨by simp, .inl ⟨_, _, rfl, run_takeDeferred hD, ?_⟩⟩
    subst hnn
    have hu : Upd (fun k => k = WA.heap.size) W' (W'.putObj WA.heap.size (.deferred none)) := upd_put (S := fun k => k = WA.heap.size) rfl _
    refine ⟨_, results_tmp rfl _ _ _, _, rfl, Q.out.bel.trans (hu.below (by have := Q.out.bel.size; omega) (fun k e => by omega)), ?_⟩
    exact owns_on HV.out (fun k e => hu.block k (HV.out.lt k e).2 (hkn.out k e).1)
  case body =>
    rintro L i hi W' hLe ⟨q, hq⟩ hs hr
    simp only [wAct, List.setIfInBounds_toArray, List.set_cons_succ, List.set_cons_zero]
    obtain ⟨v, hv1, hv2⟩ := q.s
    obtain ⟨o9, c9, e9⟩ := slice_of (owns_base hv2 (b' := 0) (fun _ _ => Nat.zero_le _))
    subst e9
    have hx64 := h64 _ (List.getElem_mem hi)
    have tk : Hid (ws.take (i + 1) = ws.take i ++ [ws[i]]) := hid (List.take_succ_eq_append_getElem hi)
    generalize ws[i] = x at *
    have hB1 : Below W'.heap.size W' (W'.alloc (.cells #[.int .u64 (x : Nat)] 22)) := (Below.refl _ W').alloc (Nat.le_refl _) _
    have z1 : (W'.alloc (.cells #[.int .u64 (x : Nat)] 22)).heap.size = W'.heap.size + 1 := World.size_alloc ..
    obtain ⟨v', w', hrun, ho', hg, hk⟩ := append_one W' 27 (.slice o9 i c9) i _ hv2 x (by omega)
    have hU1 : Upd (fun k => (Value.slice o9 i c9).ownBlock = some k) (W'.alloc (.cells #[.int .u64 (x : Nat)] 22)) w' := (Upd.refl _ _).grown hg (fun k e => .inl e)
    have hU : Upd (fun k => (Value.slice o9 i c9).ownBlock = some k) W' w' := (Upd.of_below hB1).trans' hU1
    have c2 := hv1.cell
    obtain ⟨o8, c8, e8⟩ := slice_of (owns_base ho' (b' := 0) (fun _ _ => Nat.zero_le _))
    subst e8
    have hne : ∀ k, (Value.slice o9 i c9).ownBlock = some k → k ≠ W.heap.size ∧ k ≠ Bh ∧ k ≠ Bi := fun k e => ⟨fun e2 => own_ne (owns_base hv2 (b' := 0) (fun _ _ => Nat.zero_le _)) hv1 (by decide) (by rw [e, e2]), fun e2 => own_ne (owns_base hv2 (b' := 0) (fun _ _ => Nat.zero_le _)) q.b0 (by decide) (by rw [e, e2]), fun e2 => own_ne (owns_base hv2 (b' := 0) (fun _ _ => Nat.zero_le _)) q.b1 (by decide) (by rw [e, e2])⟩
    have bx : Boxed w' W.heap.size 27 (.slice o9 i c9) := box_of (hU.block _ hv1.lt (fun e => (hne _ e).1 rfl)) hv1
    have cw := bx.cell
    have fw := bx.frozen
    gi_wp2_with (first | (with_reducible refine gi_append _ (.tmp 8) (.tmp 10) 27 27 rfl _ _ (by simp [Act.eval]) (by simp [Act.eval]) _ _ hrun ?_) | (simp only [Oper.semAt]; go_simp))
    have hq1 := hq _ hv1
    have hlt := fun k e => hv2.lt k e
    have hz' := q.bel.size
    have z2 := hU1.size
    have hloc : ∀ k, (Value.slice o8 (i + 1) c8).ownBlock = some k → k ≠ W.heap.size ∧ k ≠ WA.heap.size ∧ k ≠ WA.heap.size + 1 ∧ B0 ≤ k := by
      intro k e
      rcases hk k e with e | e
      · exact ⟨(hne k e).1, (hq1 k e).1, (hq1 k e).2, (hlt k e).1⟩
      · exact ⟨by omega, by omega, by omega, by omega⟩
    have hU2 : Upd (fun k => (Value.slice o9 i c9).ownBlock = some k ∨ k = W.heap.size) W' (w'.setCell ⟨W.heap.size, 0, none⟩ (.slice o8 (i + 1) c8)) :=
      (Upd.setCell (S := fun k => (Value.slice o9 i c9).ownBlock = some k ∨ k = W.heap.size) ⟨hU.os, hU.tape, hU.output, hU.size, fun k hk2 hn => hU.block k hk2 (fun e => hn (.inl e))⟩ (p := ⟨W.heap.size, 0, none⟩) (.inl (.inr rfl)) _)
    have bx2 : Boxed (w'.setCell ⟨W.heap.size, 0, none⟩ (.slice o8 (i + 1) c8)) W.heap.size 27 (.slice o8 (i + 1) c8) := heap_set (c := [.slice o9 i c9]) bx 0 (.slice o8 (i + 1) c8)
    refine ⟨⟨hU2.block _ (by omega) ?_, hU2.block _ (by omega) ?_⟩, ⟨q.lay.upd hU2 ?_ ?_ ?_, box_of (hU2.block _ q.b0.lt ?_) q.b0, box_of (hU2.block _ q.b1.lt ?_) q.b1, ⟨_, bx2, ?_⟩, q.bel.trans (hU2.below (by omega) ?_)⟩, ?_⟩
    · rintro (e | e)
      · exact (hq1 _ e).2 (by omega)
      · omega
    · rintro (e | e)
      · exact (hq1 _ e).1 (by omega)
      · omega
    · rintro (e | e)
      · have := (hlt _ e).1; omega
      · omega
    · rintro k e1 (e | e)
      · have := (hlt _ e).1; have := hlo.2.1 k e1; omega
      · have := hlo.2.1 k e1; omega
    · rintro k e1 (e | e)
      · have := (hlt _ e).1; have := hlo.2.2 k e1; omega
      · have := hlo.2.2 k e1; omega
    · rintro (e | e)
      · exact (hne _ e).2.1 rfl
      · omega
    · rintro (e | e)
      · exact (hne _ e).2.2 rfl
      · omega
    · rw [tk.out, List.map_append]
      exact owns_on (owns_base ho' (fun k e => (hloc k e).2.2.2)) (fun k e => Below.heap_setCell _ _ _ _ (hloc k e).1)
    · rintro k (e | e)
      · exact (hlt k e).1
      · omega
    · intro v hv k e
      have e1 : v = .slice o8 (i + 1) c8 := by
        unfold Boxed at hv bx2
        rw [hv] at bx2
        simpa using bx2
      subst e1
      exact ⟨(hloc k e).2.1, (hloc k e).2.2.1⟩
end
end Go.Proofs.YtikgicepdalfpaaGreat.W
