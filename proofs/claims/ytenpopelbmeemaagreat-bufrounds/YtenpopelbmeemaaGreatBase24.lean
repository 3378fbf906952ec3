import Derived.Test.YtenpopelbmeemaaGreatBase12
import Derived.Test.YtenpopelbmeemaaGreatBase22
import Derived.Laws.BytesArg
import Derived.Test.YtenpopelbmeemaaGreatBase23
import Derived.Test.YtenpopelbmeemaaGreatBase21
import Derived.Test.YtenpopelbmeemaaGreatBase0
import Derived.Lib.ConvBytes
import Derived.Test.YtenpopelbmeemaaGreatBase15
import Derived.Lib.AppendZeros
import Derived.Lib.SliceRun
import Derived.Test.YtenpopelbmeemaaGreatBase20
/- The contract of the reference's class function: it returns the class 'cls' of every pattern; the world has at most drawn. -/
namespace Go.Proofs.YtenpopelbmeemaaGreat.W
open Go.ChangeShapes Go.WideShapes Go.RowKit

theorem txt_lt (l k : Int) (hk : k ≤ 5) (hl : l / 1099511627776 = k) (c : l % 1099511627776 < 2 ^ (8 * k).toNat) : textCls l = 5 := by
  unfold textCls txtOk
  rw [hl]
  simp [hk, c]
theorem txt_ge (l k : Int) (hl : l / 1099511627776 = k) (c : ¬ l % 1099511627776 < 2 ^ (8 * k).toNat) : textCls l = 7 := by
  unfold textCls txtOk
  rw [hl]
  simp [c]
set_option maxHeartbeats 1000000 in
theorem refClass_c (n : Int) (h0 : 0 ≤ n) (h1 : n < 18446744073709551616) (w : World) :
    Calls Tryz.prog 13 #[.int .u64 n] w fun e w' => e = .returned (.int .i64 (cls n)) ∧ ∃ m, w' = w.drewN m := by
  by_cases c0 : nanB n = false
  · have H := hid (cls_dbl n c0)
    go_enter Tryz.func13, Tryz.ntmps13
    go_wp2_with (go_at_call 35; refine (refNaN_c _ (by omega) (by omega) _).mono ?_; rintro e w' ⟨rfl, rfl⟩)
    go_ret
    exact ⟨ret_int H.out.symm, 0, rfl⟩
  have c0' : nanB n = true := by simpa using c0
  clear c0
  by_cases c1 : n = 9221120237041090560
  · have H := hid cls_canon
    subst c1
    go_enter Tryz.func13, Tryz.ntmps13
    go_wp2_with (go_at_call 35; refine (refNaN_c _ (by omega) (by omega) _).mono ?_; rintro e w' ⟨rfl, rfl⟩)
    go_ret
    exact ⟨ret_int H.out.symm, 0, rfl⟩
  have d1 : (n == 9221120237041090560) = false := by simpa using c1
  by_cases c2 : n < 18444492273895866368
  · have H := hid (cls_low n c0' c1 c2)
    clear c1
    go_enter Tryz.func13, Tryz.ntmps13
    go_wp2_with (go_at_call 35; refine (refNaN_c _ (by omega) (by omega) _).mono ?_; rintro e w' ⟨rfl, rfl⟩)
    go_ret
    exact ⟨ret_int H.out.symm, 0, rfl⟩
  have c2' : 18444492273895866368 ≤ n := by omega
  clear c1 c2
  obtain ⟨t, ht⟩ : ∃ t, (n - 18444492273895866368) / 281474976710656 = t := ⟨_, rfl⟩
  obtain ⟨l, hl⟩ : ∃ l, n % 281474976710656 = l := ⟨_, rfl⟩
  have t0 : 0 ≤ t := by omega
  have t8 : t < 8 := by omega
  have l0 : 0 ≤ l := by omega
  have l1 : l < 281474976710656 := by omega
  have ht' : n / 281474976710656 % 8 = t := by omega
  by_cases e0 : t = 0
  · subst e0
    have H0 := cls_t0 n h1 c2' ht'
    rw [hl] at H0
    have H := hid H0
    clear H0 ht'
    by_cases f0 : l = 0
    · subst f0
      go_enter Tryz.func13, Tryz.ntmps13
      go_wp2_with (go_at_call 35; refine (refNaN_c _ (by omega) (by omega) _).mono ?_; rintro e w' ⟨rfl, rfl⟩)
      go_ret
      exact ⟨ret_int (by rw [H.out]; rfl), 0, rfl⟩
    · have g0 : (l == 0) = false := by simpa using f0
      by_cases f2 : l ≤ 2
      · have H2 := hid (show plainCls l = 4 by simp [plainCls, f0]; omega)
        clear f0
        go_enter Tryz.func13, Tryz.ntmps13
        go_wp2_with (go_at_call 35; refine (refNaN_c _ (by omega) (by omega) _).mono ?_; rintro e w' ⟨rfl, rfl⟩)
        go_ret
        exact ⟨ret_int (by rw [H.out, H2.out]), 0, rfl⟩
      · have H2 := hid (show plainCls l = 7 by simp [plainCls, f0]; omega)
        clear f0
        go_enter Tryz.func13, Tryz.ntmps13
        go_wp2_with (go_at_call 35; refine (refNaN_c _ (by omega) (by omega) _).mono ?_; rintro e w' ⟨rfl, rfl⟩)
        go_ret
        exact ⟨ret_int (by rw [H.out, H2.out]), 0, rfl⟩
  have e0' : (t == 0) = false := by simpa using e0
  by_cases e1 : t = 1
  · subst e1
    have H := hid (cls_t1 n h1 c2' ht')
    clear ht' e0
    go_enter Tryz.func13, Tryz.ntmps13
    go_wp2_with (go_at_call 35; refine (refNaN_c _ (by omega) (by omega) _).mono ?_; rintro e w' ⟨rfl, rfl⟩)
    go_ret
    exact ⟨ret_int H.out.symm, 0, rfl⟩
  have e1' : (t == 1) = false := by simpa using e1
  by_cases e2 : t = 2
  · subst e2
    have H0 := cls_t2 n h1 c2' ht'
    rw [hl] at H0
    have H := hid H0
    clear H0 ht' e0 e1
    obtain ⟨k, hk⟩ : ∃ k, l / 1099511627776 = k := ⟨_, rfl⟩
    obtain ⟨r, hr⟩ : ∃ r, l % 1099511627776 = r := ⟨_, rfl⟩
    have k0 : 0 ≤ k := by omega
    have k1 : k < 256 := by omega
    have r0 : 0 ≤ r := by omega
    by_cases c : 5 < k
    · have H2 := hid (txtOk_big l (by omega))
      have hd : decide (k ≤ 5) = false := by simpa using c
      go_enter Tryz.func13, Tryz.ntmps13
      go_wp2_with (first | (go_at_call 35; refine (refNaN_c _ (by omega) (by omega) _).mono ?_; rintro e w' ⟨rfl, rfl⟩) | (go_at_call 36; refine (power_i _ (by omega) (by omega) _).mono ?_; rintro e w' ⟨rfl, rfl⟩))
      go_quiet ((go_at_call 36; exact Calls.quiet_of_same (power_i _ (by omega) (by omega) _)))
      go_wp2
      go_ret
      exact ⟨ret_int (by rw [H.out, H2.out]), _, rfl⟩
    · have hd : decide (k ≤ 5) = true := by simp; omega
      by_cases d : r < 2 ^ (8 * k).toNat
      · have H2 := hid (txt_lt l k (by omega) hk (by rw [hr]; exact d))
        go_enter Tryz.func13, Tryz.ntmps13
        go_wp2_with (first | (go_at_call 35; refine (refNaN_c _ (by omega) (by omega) _).mono ?_; rintro e w' ⟨rfl, rfl⟩) | (go_at_call 36; refine (power_i _ (by omega) (by omega) _).mono ?_; rintro e w' ⟨rfl, rfl⟩))
        go_quiet ((go_at_call 36; exact Calls.quiet_of_same (power_i _ (by omega) (by omega) _)))
        go_wp2
        go_ret
        exact ⟨ret_int (by rw [H.out, H2.out]), _, rfl⟩
      · have H2 := hid (txt_ge l k hk (by rw [hr]; exact d))
        go_enter Tryz.func13, Tryz.ntmps13
        go_wp2_with (first | (go_at_call 35; refine (refNaN_c _ (by omega) (by omega) _).mono ?_; rintro e w' ⟨rfl, rfl⟩) | (go_at_call 36; refine (power_i _ (by omega) (by omega) _).mono ?_; rintro e w' ⟨rfl, rfl⟩))
        go_quiet ((go_at_call 36; exact Calls.quiet_of_same (power_i _ (by omega) (by omega) _)))
        go_wp2
        go_ret
        exact ⟨ret_int (by rw [H.out, H2.out]), _, rfl⟩
  have e2' : (t == 2) = false := by simpa using e2
  by_cases e3 : t = 3
  · subst e3
    have H := hid (cls_t3 n h1 c2' ht')
    clear ht' e0 e1 e2
    go_enter Tryz.func13, Tryz.ntmps13
    go_wp2_with (go_at_call 35; refine (refNaN_c _ (by omega) (by omega) _).mono ?_; rintro e w' ⟨rfl, rfl⟩)
    go_ret
    exact ⟨ret_int H.out.symm, 0, rfl⟩
  · have H := hid (cls_t4 n h1 c2' (by omega))
    have e3' : (t == 3) = false := by simpa using e3
    clear ht' e0 e1 e2 e3
    go_enter Tryz.func13, Tryz.ntmps13
    go_wp2_with (go_at_call 35; refine (refNaN_c _ (by omega) (by omega) _).mono ?_; rintro e w' ⟨rfl, rfl⟩)
    go_ret
    exact ⟨ret_int H.out.symm, 0, rfl⟩
end Go.Proofs.YtenpopelbmeemaaGreat.W
/- Contracts of the reference's faces: each returns what package word's own does; the world has at most drawn. -/
namespace Go.Proofs.YtenpopelbmeemaaGreat.W
open Go.ChangeShapes Go.WideShapes Go.RowKit

set_option maxHeartbeats 400000 in
theorem refFromFloat_c (n : Int) (h0 : 0 ≤ n) (h1 : n < 18446744073709551616) (w : World) :
    Calls Tryz.prog 12 #[.int .u64 n] w fun e w' => e = .returned (.int .u64 (fltW n)) ∧ w' = w := by
  cases c : nanB n
  · have H := hid (show fltW n = n by simp [fltW, c])
    go_enter Tryz.func12, Tryz.ntmps12
    go_wp2_with (go_at_call 35; refine (refNaN_c _ (by omega) (by omega) _).mono ?_; rintro e w' ⟨rfl, rfl⟩)
    go_ret
    exact ⟨ret_int H.out.symm, rfl⟩
  · have H := hid (show fltW n = 9221120237041090560 by simp [fltW, c])
    go_enter Tryz.func12, Tryz.ntmps12
    go_wp2_with (go_at_call 35; refine (refNaN_c _ (by omega) (by omega) _).mono ?_; rintro e w' ⟨rfl, rfl⟩)
    go_ret
    exact ⟨ret_int H.out.symm, rfl⟩
end Go.Proofs.YtenpopelbmeemaaGreat.W
/- The contract of package word's ToText: it returns the text of every pattern that is one; the world has at most one block more. -/
namespace Go.Proofs.YtenpopelbmeemaaGreat.W
open Go.ChangeShapes Go.WideShapes Go.RowKit

end Go.Proofs.YtenpopelbmeemaaGreat.W
/- Package value: Unbox, of a string in a cell; of what stands in a word. -/
namespace Go.Proofs.YtenpopelbmeemaaGreat.W
open Go.ChangeShapes Go.WideShapes Go.RowKit Go.Shelf
set_option linter.unusedVariables false
section
variable {W W' : World} {hb sb : Nat} {vc : Value} {T : Nat → Prop} {H : List (Option Hc)} {u h : Nat}
theorem unbox_sint (i : Int) (hs : smallB i = true) (hp : Value) (W : World) :
    Calls Tryz.prog 33 #[hp, .int .u64 (intW i)] W fun e w' => e = .returned (.tuple #[.agg #[.int .i64 2, .int .i64 i, .int .u64 0, .string ⟨#[]⟩, .int .u64 0], .int .i64 0]) ∧ Below W.heap.size W w' := by
  (have hB1 : Below W.heap.size W (W.alloc (.cells #[.int .i64 0, .int .i64 0, .int .u64 0, .string ⟨#[]⟩, .int .u64 0] 33)) := (Below.refl _ W).alloc (Nat.le_refl _) _); (have hs1 : (W.alloc (.cells #[.int .i64 0, .int .i64 0, .int .u64 0, .string ⟨#[]⟩, .int .u64 0] 33)).heap.size = W.heap.size + 1 := World.size_alloc ..); (have f1 := World.alloc_heap_new W (.cells #[.int .i64 0, .int .i64 0, .int .u64 0, .string ⟨#[]⟩, .int .u64 0] 33))
  have hbd := intW_bd i hs
  have cc := fun W => class_c (intW i) (by omega) (by omega) W
  rw [intW_cls i hs] at cc
  have ct := fun W => toInt_c (intW i) (by omega) (by omega) W
  rw [toInt_intW i hs, intW_cls i hs] at ct
  generalize intW i = x at *
  clear hbd
  go_enter Tryz.func33, Tryz.ntmps33
  go_upto_region 1 with fail
  have eR := fun j => cell_of_row _ W.heap.size j _ _ _ f1
  have zR : ∀ j, (W.alloc (.cells #[.int .i64 0, .int .i64 0, .int .u64 0, .string ⟨#[]⟩, .int .u64 0] 33)).frozen? ⟨W.heap.size, j, none⟩ = false := fun j => by simp only [World.frozen?, f1]; simp
  have FR := hid f1
  have HB := hid hB1
  clear f1 hB1 hs1
  generalize W.alloc (.cells #[.int .i64 0, .int .i64 0, .int .u64 0, .string ⟨#[]⟩, .int .u64 0] 33) = W1 at *
  go_wp2_with (first | (go_at_call 57; (with_reducible refine (cc _).mono ?_); rintro e w' ⟨rfl, hw⟩; (have hw' := hw.symm); subst hw'; clear hw) | (go_at_call 59; (with_reducible refine (ct _).mono ?_); rintro e w' ⟨rfl, hw⟩; (have hw' := hw.symm); subst hw'; clear hw))
  refine bodyPost_ret (val_ret2 rfl _ _ W.heap.size _ _ _ _ _ (0, 0) rfl (five_set FR.out _ _ _ _ _)) rfl ?_
  exact ⟨rfl, five_below HB.out (Nat.le_refl _) _ _ _ _ _⟩
theorem unbox_flt (x : Int) (h0 : 0 ≤ x) (h1 : x < 18446744073709551616) (hx : cls x = 1) (hp : Value) (W : World) :
    Calls Tryz.prog 33 #[hp, .int .u64 x] W fun e w' => e = .returned (.tuple #[.agg #[.int .i64 3, .int .i64 0, .int .u64 x, .string ⟨#[]⟩, .int .u64 0], .int .i64 0]) ∧ Below W.heap.size W w' := by
  (have hB1 : Below W.heap.size W (W.alloc (.cells #[.int .i64 0, .int .i64 0, .int .u64 0, .string ⟨#[]⟩, .int .u64 0] 33)) := (Below.refl _ W).alloc (Nat.le_refl _) _); (have hs1 : (W.alloc (.cells #[.int .i64 0, .int .i64 0, .int .u64 0, .string ⟨#[]⟩, .int .u64 0] 33)).heap.size = W.heap.size + 1 := World.size_alloc ..); (have f1 := World.alloc_heap_new W (.cells #[.int .i64 0, .int .i64 0, .int .u64 0, .string ⟨#[]⟩, .int .u64 0] 33))
  have cc := fun W => class_c x (by omega) (by omega) W
  rw [hx] at cc
  clear hx
  go_enter Tryz.func33, Tryz.ntmps33
  go_upto_region 1 with fail
  have eR := fun j => cell_of_row _ W.heap.size j _ _ _ f1
  have zR : ∀ j, (W.alloc (.cells #[.int .i64 0, .int .i64 0, .int .u64 0, .string ⟨#[]⟩, .int .u64 0] 33)).frozen? ⟨W.heap.size, j, none⟩ = false := fun j => by simp only [World.frozen?, f1]; simp
  have FR := hid f1
  have HB := hid hB1
  clear f1 hB1 hs1
  generalize W.alloc (.cells #[.int .i64 0, .int .i64 0, .int .u64 0, .string ⟨#[]⟩, .int .u64 0] 33) = W1 at *
  go_wp2_with (go_at_call 57; (with_reducible refine (cc _).mono ?_); rintro e w' ⟨rfl, hw⟩; (have hw' := hw.symm); subst hw'; clear hw)
  refine bodyPost_ret (val_ret2 rfl _ _ W.heap.size _ _ _ _ _ (0, 0) rfl (five_set FR.out _ _ _ _ _)) rfl ?_
  exact ⟨rfl, five_below HB.out (Nat.le_refl _) _ _ _ _ _⟩
end
end Go.Proofs.YtenpopelbmeemaaGreat.W
/- Package text: order. -/
namespace Go.Proofs.YtenpopelbmeemaaGreat.W
open Go.ChangeShapes Go.WideShapes Go.RowKit
set_option linter.unusedVariables false
end Go.Proofs.YtenpopelbmeemaaGreat.W
/- Package text: what a word tells; Of, Len, Byte, both, Compare. -/
namespace Go.Proofs.YtenpopelbmeemaaGreat.W
open Go.ChangeShapes Go.WideShapes Go.RowKit Go.Shelf
set_option linter.unusedVariables false
/-- a word of a string -/
def IsTxt (H : List (Option Hc)) (w : Nat) (t : ByteArray) : Prop := (t.size ≤ 5 ∧ (w : Int) = txtW t) ∨ ∃ id, w = hw id ∧ id < 281474976710656 ∧ H[id]? = some (some (.text (strB t)))
/-- what is held is held on -/
def Ext (H H' : List (Option Hc)) : Prop := ∀ (i : Nat) (c : Hc), H[i]? = some (some c) → H'[i]? = some (some c)
theorem Ext.refl (H : List (Option Hc)) : Ext H H := fun _ _ h => h
theorem Ext.trans {H H' H'' : List (Option Hc)} (h : Ext H H') (h' : Ext H' H'') : Ext H H'' := fun i c e => h' i c (h i c e)
theorem ext_put (H : List (Option Hc)) (c : Hc) : Ext H (putH H (lid H) (some c)) := by
  intro i x hx
  rw [putH_ne H _ i (fun e => ?_)]
  · exact hx
  · subst e
    have hl := (List.getElem?_eq_some_iff.1 hx).1
    rw [lid_free hl] at hx
    cases hx
theorem IsTxt.ext {H H' : List (Option Hc)} {w : Nat} {t : ByteArray} (h : IsTxt H w t) (he : Ext H H') : IsTxt H' w t := by
  rcases h with h | ⟨id, h1, h2, h3⟩
  · exact .inl h
  · exact .inr ⟨id, h1, h2, he _ _ h3⟩
theorem IsTxt.lt {H : List (Option Hc)} {w : Nat} {t : ByteArray} (h : IsTxt H w t) : w < 18446744073709551616 := by
  rcases h with ⟨h1, h2⟩ | ⟨id, rfl, h2, h3⟩
  · have := cls_is5 _ (txtW_cls t h1); omega
  · exact hw_lt id h2
section
variable {W1 : World} {S : Nat → Prop} {hb : Nat} {H : List (Option Hc)} {u : Nat}
end
end Go.Proofs.YtenpopelbmeemaaGreat.W
/- slices.Grow and slices.Concat, of words. -/
namespace Go.Proofs.YtenpopelbmeemaaGreat.W
open Go.ChangeShapes Go.WideShapes Go.RowKit Go.Shelf
set_option linter.unusedVariables false
theorem infoW : (Tryz.prog.info? 22).map (fun i => (i.zero, i.size, i.bytes)) = some (some (.int .u64 0), 1, 8) := by kernel_rfl
theorem underW : Tryz.prog.underlying 27 = some (.slice 22) := by kernel_rfl
theorem grow_run (w : World) (ty : TypeId) (m : Nat) (hm : 0 < m) (hm2 : m ≤ 2000000) : ∃ cap w', (Builtin.append_ #[27, 3] ty #[.slice none 0 0, .int .i64 (m : Int)]).run Tryz.prog w = .ok (.slice (some ⟨w.heap.size, 0, none⟩) m cap) w' ∧ w'.ownsRow w.heap.size 22 1 (.slice (some ⟨w.heap.size, 0, none⟩) 0 cap) 0 [] ∧ w.grownBy w' none ∧ m ≤ cap := by
  obtain ⟨i0, hi, hz0, hz1, hz2⟩ := info_parts infoW
  have hrun := Lib.run_append_nil_zeros (P := Tryz.prog) w 27 3 ty 22 i0 (.int .u64 0) .i64 .i64 underW Tryz.underlying3 hi hz0 m hm (by omega) (by omega) (by rw [hz2]; omega)
  refine ⟨_, _, hrun, ⟨by simp, .inr ⟨w.heap.size, _, _, rfl, Nat.le_refl _, heap_alloc_new w.drew _, Nat.zero_le _, grownCap_le_maxLen w _ _ _ (by unfold maxLen; omega), ?_, by simp⟩⟩, ⟨rfl, rfl, rfl, ?_, fun k hk _ => Below.heap_alloc w.drew _ k hk⟩, ?_⟩
  · have h1 : (Value.int .u64 0).cells = #[.int .u64 0] := rfl
    rw [zeroCells_one _ _ h1, zeroCells_one _ _ h1]
    have := grownCap_ge w m 0 22
    simp; omega
  · show w.heap.size ≤ (w.drew.alloc _).heap.size; simp
  · exact grownCap_ge w m 0 22
set_option maxRecDepth 100000 in
theorem grow_c (W : World) (m : Nat) (hm : 0 < m) (hm2 : m ≤ 2000000) : Calls Tryz.prog 67 #[.slice none 0 0, .int .i64 m] W fun e w' => ∃ v, e = .returned v ∧ Below W.heap.size W w' ∧ w'.ownsRow W.heap.size 22 1 v 0 [] := by
  obtain ⟨cap, w1, hrun, hown, hgr, hcap⟩ := grow_run W 27 m hm hm2
  have h1 : ¬ ((m : Int) < 0) := by omega
  have h3 : IntKind.i64.wrap (m : Int) = m := by rw [IntKind.wrap_i64]; omega
  have h4 : (m : Int) > 0 := by omega
  have hB : Below W.heap.size W w1 := ((Upd.refl (fun _ => False) W).grown hgr (fun k e => by cases e)).below (Nat.le_refl _) (fun k e => e.elim)
  go_enter Tryz.func67, Tryz.ntmps67
  go_wp2_with (at_builtin; refine Lib.wpList_append_run _ rfl (.tmp 20) (.tmp 21) 27 3 rfl _ _ (by simp [Act.eval]) (by simp [Act.eval]) _ _ hrun ?_)
  go_ret
  exact ⟨_, rfl, hB, hown⟩
theorem app_words (w : World) (B : Nat) (ty : TypeId) (hB : B ≤ w.heap.size) (v : Value) (n : Nat) (xs : List Value) (hown : w.ownsRow B 22 1 v n xs) (vs : Value) (ws : List Nat) (hw : WordsAt w vs ws) (hn : n + ws.length ≤ 2000000) :
    ∃ v' w', (Builtin.append_ #[27, 27] ty #[v, vs]).run Tryz.prog w = .ok v' w' ∧ w'.ownsRow B 22 1 v' (n + ws.length) (xs ++ ws.map (fun x => .int .u64 (x : Nat))) ∧ w.grownBy w' v.ownBlock := by
  obtain ⟨i0, hi, hz0, hz1, hz2⟩ := info_parts infoW
  obtain ⟨o, cap, rfl, hl, h64, hcell⟩ := hw
  cases o with
  | none =>
    have h0 : ws = [] := by
      cases ws with
      | nil => rfl
      | cons a r => obtain ⟨x, hx, _⟩ := hcell 0 (by simp); cases hx
    subst h0
    refine ⟨v, w, ?_, by simpa using hown, ⟨rfl, rfl, rfl, Nat.le_refl _, fun k _ _ => rfl⟩⟩
    rcases hown.2 with ⟨rfl, rfl⟩ | ⟨g, cap', cur, rfl, _, _, hnc, _⟩
    · simp [Builtin.append_, run_underlying underW, sizeOf, typeInfo, hi, Builtin.lenOf, Builtin.firstCells]
    · simp [Builtin.append_, run_underlying underW, sizeOf, typeInfo, hi, Builtin.lenOf, Builtin.firstCells, hnc, storeCells]
  | some a =>
    have h1 : ∀ j u, (ws.map (fun x => Value.int .u64 (x : Nat)))[j]? = some u → w.cell? (a.add j) = some u := by
      intro j u hj
      rw [List.getElem?_map] at hj
      by_cases hjl : j < ws.length
      · rw [List.getElem?_eq_getElem hjl] at hj
        obtain ⟨x, hx, hc⟩ := hcell j hjl
        cases hx
        simp at hj
        rw [← hj]; exact hc
      · rw [List.getElem?_eq_none (by omega)] at hj; cases hj
    have h2 : ∀ u ∈ ws.map (fun x => Value.int .u64 (x : Nat)), u.oneCell' = true := by
      intro u hu
      obtain ⟨x, _, rfl⟩ := List.mem_map.1 hu
      rfl
    obtain ⟨v', w', hrun, ho, hg, _⟩ := run_append_own w B 27 ty 22 i0 (.int .u64 0) 1 8 underW hi hz0 hz1 hz2 rfl (by omega) v n xs hown a ws.length cap (ws.map (fun x => .int .u64 (x : Nat))) (by simp) h1 h2 (by unfold maxLen; omega) (by omega) hB
    exact ⟨v', w', hrun, ho, hg⟩
theorem words_own {w : World} {B : Nat} {v : Value} {ws : List Nat} (h : w.ownsRow B 22 1 v ws.length (ws.map (fun x => .int .u64 (x : Nat)))) (hl : ws.length ≤ 2000000) (h64 : ∀ x ∈ ws, x < 18446744073709551616) : WordsAt w v ws := by
  rcases h.2 with ⟨rfl, h0⟩ | ⟨g, cap, cur, rfl, _⟩
  · exact ⟨none, 0, by rw [h0], by omega, h64, fun i hi => by omega⟩
  · refine ⟨some ⟨g, 0, none⟩, cap, rfl, by omega, h64, fun i hi => ⟨_, rfl, ?_⟩⟩
    exact h.cells (g := g) rfl i _ (by rw [List.getElem?_map, List.getElem?_eq_getElem hi]; rfl)
set_option maxRecDepth 100000 in
theorem sconcat_c (W : World) (gb cap : Nat) (v1 v2 : Value) (r1 r2 : List Nat) (hc0 : W.cell? ⟨gb, 0, none⟩ = some v1) (hc1 : W.cell? ⟨gb, 1, none⟩ = some v2) (h1 : WordsAt W v1 r1) (h2 : WordsAt W v2 r2) (hl : r1.length + r2.length ≤ 2000000) (hp : 0 < r2.length) :
    Calls Tryz.prog 39 #[.slice (some ⟨gb, 0, none⟩) 2 cap] W fun e w' => ∃ v, e = .returned v ∧ Below W.heap.size W w' ∧ WordsAt w' v (r1 ++ r2) := by
  have cg := grow_c W (r1.length + r2.length) (by omega) hl
  have h1' := h1
  have h2' := h2
  obtain ⟨o1, cap1, rfl, l1, x1, e1⟩ := h1'
  obtain ⟨o2, cap2, rfl, l2, x2, e2⟩ := h2'
  have X1 := hid x1
  have X2 := hid x2
  have HL := hid hl
  clear x1 x2 e1 e2 l1 l2
  generalize hn1 : r1.length = n1 at *
  generalize hn2 : r2.length = n2 at *
  have a1 : IntKind.i64.wrap (n1 : Int) = (n1 : Int) := by rw [IntKind.wrap_i64]; omega
  have a2 : IntKind.i64.wrap ((n1 : Int) + (n2 : Int)) = (n1 : Int) + (n2 : Int) := by rw [IntKind.wrap_i64]; omega
  have b1 : ¬ (n1 : Int) < 0 := by omega
  have b2 : ¬ (n1 : Int) + (n2 : Int) < 0 := by omega
  rw [show ((n1 + n2 : Nat) : Int) = (n1 : Int) + (n2 : Int) by omega] at cg
  have N1 := hid hn1
  have N2 := hid hn2
  clear hn1 hn2 hl
  go_enter Tryz.func39, Tryz.ntmps39
  go_wp2
  refine wp_loop_rounds 3 ?_
  rw [rounds_succ]
  go_wp2
  rw [rounds_succ]
  go_wp2
  rw [rounds_succ]
  go_wp2_with (go_at_call 67; (with_reducible refine cg.mono ?_); rintro e w4 ⟨v, rfl, hB4, hown⟩; clear cg)
  have H1 := hid (words_below h1 hB4)
  obtain ⟨v5, w5, hrun5, hown5, hg5⟩ := app_words w4 W.heap.size 27 hB4.size v 0 [] hown (.slice o1 n1 cap1) r1 H1.out (by rw [N1.out]; have := HL.out; omega)
  have hU5 : Upd (fun k => W.heap.size ≤ k) w4 w5 := (Upd.refl (fun k => W.heap.size ≤ k) w4).grown hg5 (fun k e => .inl (hown.lt k e).1)
  have hB5 : Below W.heap.size W w5 := hB4.trans (hU5.below hB4.size (fun k e => e))
  obtain ⟨v6, w6, hrun6, hown6, hg6⟩ := app_words w5 W.heap.size 27 hB5.size v5 (0 + r1.length) ([] ++ r1.map (fun x => .int .u64 (x : Nat))) hown5 (.slice o2 n2 cap2) r2 (words_below h2 hB5) (by rw [N1.out, N2.out]; have := HL.out; omega)
  have hU6 : Upd (fun k => W.heap.size ≤ k) w5 w6 := (Upd.refl (fun k => W.heap.size ≤ k) w5).grown hg6 (fun k e => .inl (hown5.lt k e).1)
  have hB6 : Below W.heap.size W w6 := hB5.trans (hU6.below hB5.size (fun k e => e))
  have d0 := below_cell hB4 hc0
  have d1 := below_cell hB5 hc1
  have fin : Hid (WordsAt w6 v6 (r1 ++ r2)) := by
    refine words_own (B := W.heap.size) ?_ ?_ ?_
    · rw [List.length_append, List.map_append]
      simpa using hown6
    · rw [List.length_append, N1.out, N2.out]; exact HL.out
    · intro x hx
      rcases List.mem_append.1 hx with h | h
      · exact X1.out x h
      · exact X2.out x h
  have HB6 := hid hB6
  obtain ⟨p0, q0, hv0⟩ := slice_of (owns_base hown (b' := 0) (fun _ _ => Nat.zero_le _))
  obtain ⟨p5, q5, hv5⟩ := slice_of (owns_base hown5 (b' := 0) (fun _ _ => Nat.zero_le _))
  subst hv0
  subst hv5
  clear hown hown5 hown6 hg5 hg6 hU5 hU6 hB5 hB6 hB4 h1 h2
  refine wp_loop_rounds 3 ?_
  rw [rounds_succ]
  go_wp2_with (at_builtin; refine Lib.wpList_append_run _ rfl (.tmp 31) (.tmp 32) 27 27 rfl _ _ (by simp [Act.eval]) (by simp [Act.eval]) _ _ hrun5 ?_)
  rw [rounds_succ]
  go_wp2_with (at_builtin; refine Lib.wpList_append_run _ rfl (.tmp 31) (.tmp 32) 27 27 rfl _ _ (by simp [Act.eval]) (by simp [Act.eval]) _ _ hrun6 ?_)
  rw [rounds_succ]
  go_wp2
  go_ret
  exact ⟨_, rfl, HB6.out, fin.out⟩
end Go.Proofs.YtenpopelbmeemaaGreat.W
/- casketlaw6's awake. -/
namespace Go.Proofs.YtenpopelbmeemaaGreat.W
open Go.ChangeShapes Go.WideShapes Go.RowKit Go.Shelf
set_option linter.unusedVariables false
theorem HSt.lt {W : World} {S : Nat → Prop} {hb : Nat} {H : List (Option Hc)} {u : Nat} {W' : World} (hS : ∀ k, S k → k < W.heap.size) (hU : Upd S W W') : ∀ k, Nx S W W' k → k < W'.heap.size := by
  rintro k (e | e)
  · have := hS k e; have := hU.size; omega
  · exact e.2
end Go.Proofs.YtenpopelbmeemaaGreat.W
