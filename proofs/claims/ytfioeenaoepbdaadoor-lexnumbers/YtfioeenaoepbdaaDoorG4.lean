/- Contracts of package numtext: what is printed of a double, and of a number. -/
import Derived.Test.YtfioeenaoepbdaaDoorC4
import Derived.Laws.Concat
namespace Go.Proofs.YtfioeenaoepbdaaDoor.W
open Go.ChangeShapes Go.WideShapes Go.RowKit

theorem str_app (a b : List UInt8) : (⟨a.toArray⟩ : ByteArray) ++ ⟨b.toArray⟩ = ⟨(a ++ b).toArray⟩ := by
  apply ByteArray.ext
  simp
def powTx (p : Int) : List UInt8 := (if p < 0 then [45] else [43]) ++ decL p.natAbs
theorem powTx_neg (p : Int) (h : p < 0) : powTx p = intT p := by unfold powTx intT; rw [if_pos h, if_pos h]; rfl
theorem powTx_pos (p : Int) (h : ¬ p < 0) : powTx p = 43 :: intT p := by unfold powTx intT; rw [if_neg h, if_neg h]; rfl
theorem powTx_len (p : Int) (h0 : -2000 ≤ p) (h1 : p ≤ 2000) : (powTx p).length ≤ 5 := by
  have h := decL_length p.natAbs 4 (by omega) (by omega)
  unfold powTx
  rw [List.length_append]
  split <;> simp <;> omega
theorem fracTx_len (f : Nat) (h1 : f < 4503599627370496) : (fracTx f).length ≤ 14 := by
  obtain ⟨g1, -⟩ := one_frac f h1
  unfold fracTx
  split
  · simp
  · simp only [List.length_cons]; omega
theorem powerText_c (p : Int) (h0 : -2000 ≤ p) (h1 : p ≤ 2000) (w : World) (ht : Tabs w) :
    Calls Tryd.prog 40 #[.int .i64 p] w fun e w' => e = .returned (.string ⟨(powTx p).toArray⟩) ∧ Below w.heap.size w w' := by
  by_cases hs : p < 0
  · have H := hid (powTx_neg p hs)
    go_enter Tryd.func40, Tryd.ntmps40
    go_wp2_with (go_at_call 64; refine (itoa_c p (by omega) (by omega) _ ht).mono ?_; rintro e w' ⟨rfl, hb⟩)
    go_ret
    exact ⟨ret_s H.out.symm, hb⟩
  · have H := hid (powTx_pos p hs)
    have hl := int_len p (by omega) (by omega)
    have hc := fun w => run_string_add_lists (P := Tryd.prog) w [43] (intT p) (by decide) (by omega)
    clear hl
    go_enter Tryd.func40, Tryd.ntmps40
    go_wp2_with (go_at_call 64; refine (itoa_c p (by omega) (by omega) _ ht).mono ?_; rintro e w' ⟨rfl, hb⟩)
    go_ret
    exact ⟨ret_s H.out.symm, hb⟩
def signL (b : Bool) : List UInt8 := if b = true then [45] else []
theorem fltT_sign (u : Int) (u0 : 0 ≤ u) (u1 : u < 18446744073709551616) (hn : nanB u = false) : fltT u = signL (decide (9223372036854775808 ≤ u)) ++ posT (u % 9223372036854775808).toNat := by
  unfold fltT signL
  rw [hn]
  simp only [Bool.false_eq_true, if_false, decide_eq_true_eq]
  by_cases h : 9223372036854775808 ≤ u
  · rw [if_pos h, if_pos h]
    have : u - 9223372036854775808 = u % 9223372036854775808 := by omega
    rw [this]; rfl
  · rw [if_neg h, if_neg h]
    have : u = u % 9223372036854775808 := by omega
    rw [← this]; rfl
theorem posT_num (a : Nat) (h0 : a ≠ 0) (h1 : a ≠ 9218868437227405312) : posT a = [48, 120, 49] ++ fracTx (fracOf a) ++ [112] ++ powTx (powOf a) := by
  unfold posT fracTx powTx
  rw [if_neg h1, if_neg h0]
  simp only [List.append_assoc]
theorem nan_size (u : Int) : nanB u = decide (9218868437227405312 < u % 9223372036854775808) := by
  unfold nanB
  rfl
/-- the four ways of a double's text, by its sign and its size -/
theorem float_ways (u : Int) (u0 : 0 ≤ u) (u1 : u < 18446744073709551616) :
    (9218868437227405312 < u % 9223372036854775808 ∧ fltT u = nanT) ∨
    (u % 9223372036854775808 = 9218868437227405312 ∧ fltT u = signL (decide (9223372036854775808 ≤ u)) ++ infT) ∨
    (u % 9223372036854775808 = 0 ∧ fltT u = signL (decide (9223372036854775808 ≤ u)) ++ [48, 120, 48, 112, 43, 48]) ∨
    (0 < u % 9223372036854775808 ∧ u % 9223372036854775808 < 9218868437227405312 ∧ fltT u = signL (decide (9223372036854775808 ≤ u)) ++ [48, 120, 49] ++ fracTx (fracOf (u % 9223372036854775808).toNat) ++ [112] ++ powTx (powOf (u % 9223372036854775808).toNat)) := by
  by_cases hn : 9218868437227405312 < u % 9223372036854775808
  · refine Or.inl ⟨hn, ?_⟩
    unfold fltT
    rw [if_pos (by rw [nan_size]; exact decide_eq_true hn)]
  · have e := fltT_sign u u0 u1 (by rw [nan_size]; exact decide_eq_false hn)
    by_cases hi : u % 9223372036854775808 = 9218868437227405312
    · refine Or.inr (Or.inl ⟨hi, ?_⟩)
      rw [e, hi]; rfl
    · by_cases hz : u % 9223372036854775808 = 0
      · refine Or.inr (Or.inr (Or.inl ⟨hz, ?_⟩))
        rw [e, hz]; rfl
      · refine Or.inr (Or.inr (Or.inr ⟨by omega, by omega, ?_⟩))
        rw [e, posT_num _ (by omega) (by omega)]
        simp only [List.append_assoc]
theorem str_lit (l : List UInt8) : (⟨l.toArray⟩ : ByteArray) = ⟨⟨l⟩⟩ := rfl
set_option maxHeartbeats 400000 in
theorem float_core (u z : Int) (sg : Bool) (w : World) (ht : Tabs w) (hz0 : 0 ≤ z) (hz1 : z < 9223372036854775808)
    (hs : (bits .and .u64 u 9223372036854775808 != 0) = sg) (hz : bits .andNot .u64 u 9223372036854775808 = z) (hw : 9218868437227405312 < z ∨ z = 9218868437227405312 ∨ z = 0 ∨ (0 < z ∧ z < 9218868437227405312)) :
    Calls Tryd.prog 20 #[.int .u64 u] w fun e w' => (∃ l, e = .returned (.string ⟨l.toArray⟩) ∧ (9218868437227405312 < z → l = nanT) ∧ (z = 9218868437227405312 → l = signL sg ++ infT) ∧ (z = 0 → l = signL sg ++ [48, 120, 48, 112, 43, 48]) ∧
      (0 < z ∧ z < 9218868437227405312 → l = signL sg ++ [48, 120, 49] ++ fracTx (fracOf z.toNat) ++ [112] ++ powTx (powOf z.toNat))) ∧ Below w.heap.size w w' := by
  rcases hw with h | h | h | ⟨h1, h2⟩
  · cases sg <;>
    · go_enter Tryd.func20, Tryd.ntmps20
      go_wp2_with fail
      go_ret
      exact ⟨⟨nanT, rfl, fun _ => rfl, by omega, by omega, by omega⟩, Below.refl _ _⟩
  · subst h
    cases sg <;>
    · go_enter Tryd.func20, Tryd.ntmps20
      go_wp2_with fail
      go_ret
      exact ⟨⟨_, rfl, by omega, fun _ => rfl, by omega, by omega⟩, Below.refl _ _⟩
  · subst h
    cases sg <;>
    · go_enter Tryd.func20, Tryd.ntmps20
      go_wp2_with fail
      go_ret
      exact ⟨⟨_, rfl, by omega, by omega, fun _ => rfl, by omega⟩, Below.refl _ _⟩
  · obtain ⟨f1, -, f3, f4⟩ := fracOf_spec z.toNat (by omega) (by omega)
    have cs := scaled_c z h1 h2
    have cf := fractionText_c (fracOf z.toNat) f1
    have cp := powerText_c (powOf z.toNat) (by omega) (by omega)
    have hF := fracTx_len (fracOf z.toNat) f1
    have hQ := powTx_len (powOf z.toNat) (by omega) (by omega)
    generalize fracTx (fracOf z.toNat) = F at *
    generalize powTx (powOf z.toNat) = Q at *
    generalize ((fracOf z.toNat : Nat) : Int) = fr at *
    generalize powOf z.toNat = pw at *
    clear f1 f3 f4
    have g1 : ¬ 9218868437227405312 < z := by omega
    have g2 : ¬ z = 9218868437227405312 := by omega
    have g3 : ¬ z = 0 := by omega
    have G := hid (show ¬ 9218868437227405312 < z ∧ ¬ z = 9218868437227405312 ∧ ¬ z = 0 from ⟨g1, g2, g3⟩)
    clear hz0 hz1 h1 h2
    cases sg
    · obtain ⟨Y2, hY2⟩ : ∃ Y2, Y2 = [48, 120, 49] ++ F := ⟨_, rfl⟩
      obtain ⟨Y3, hY3⟩ : ∃ Y3, Y3 = Y2 ++ [112] := ⟨_, rfl⟩
      obtain ⟨Y4, hY4⟩ : ∃ Y4, Y4 = Y3 ++ Q := ⟨_, rfl⟩
      have y2 : Y2.length ≤ 20 := by rw [hY2, List.length_append]; simp; omega
      have y3 : Y3.length ≤ 21 := by rw [hY3, List.length_append]; simp; omega
      have c1 := fun w => run_string_add_lists (P := Tryd.prog) w [] [48, 120, 49] (by decide) (by decide)
      have c2 := fun w => run_string_add_lists (P := Tryd.prog) w [48, 120, 49] F (by decide) (by omega)
      have c3 := fun w => run_string_add_lists (P := Tryd.prog) w Y2 [112] (by omega) (by decide)
      have c4 := fun w => run_string_add_lists (P := Tryd.prog) w Y3 Q (by omega) (by omega)
      simp only [← hY2, ← hY3, ← hY4] at c2 c3 c4
      have H := hid (show Y4 = signL false ++ [48, 120, 49] ++ F ++ [112] ++ Q by rw [hY4, hY3, hY2]; rfl)
      clear hY2 hY3 hY4 y2 y3 hF hQ
      go_enter Tryd.func20, Tryd.ntmps20
      go_wp2_with (first | (go_at_call 38; refine (cs _).mono ?_; rintro e w' ⟨rfl, rfl⟩) | (go_at_call 39; refine (cf _).mono ?_; rintro e w' ⟨rfl, hb⟩) | (go_at_call 40; refine (cp _ (ht.below hb)).mono ?_; rintro e w'' ⟨rfl, hb2⟩))
      go_ret
      exact ⟨⟨Y4, rfl, by have := G.out; omega, by have := G.out; omega, by have := G.out; omega, fun _ => H.out⟩, bel_trans hb hb2⟩
    · obtain ⟨Y2, hY2⟩ : ∃ Y2, Y2 = [45, 48, 120, 49] ++ F := ⟨_, rfl⟩
      obtain ⟨Y3, hY3⟩ : ∃ Y3, Y3 = Y2 ++ [112] := ⟨_, rfl⟩
      obtain ⟨Y4, hY4⟩ : ∃ Y4, Y4 = Y3 ++ Q := ⟨_, rfl⟩
      have y2 : Y2.length ≤ 20 := by rw [hY2, List.length_append]; simp; omega
      have y3 : Y3.length ≤ 21 := by rw [hY3, List.length_append]; simp; omega
      have c1 := fun w => run_string_add_lists (P := Tryd.prog) w [45] [48, 120, 49] (by decide) (by decide)
      have c2 := fun w => run_string_add_lists (P := Tryd.prog) w [45, 48, 120, 49] F (by decide) (by omega)
      have c3 := fun w => run_string_add_lists (P := Tryd.prog) w Y2 [112] (by omega) (by decide)
      have c4 := fun w => run_string_add_lists (P := Tryd.prog) w Y3 Q (by omega) (by omega)
      simp only [← hY2, ← hY3, ← hY4] at c2 c3 c4
      have H := hid (show Y4 = signL true ++ [48, 120, 49] ++ F ++ [112] ++ Q by rw [hY4, hY3, hY2]; rfl)
      clear hY2 hY3 hY4 y2 y3 hF hQ
      go_enter Tryd.func20, Tryd.ntmps20
      go_wp2_with (first | (go_at_call 38; refine (cs _).mono ?_; rintro e w' ⟨rfl, rfl⟩) | (go_at_call 39; refine (cf _).mono ?_; rintro e w' ⟨rfl, hb⟩) | (go_at_call 40; refine (cp _ (ht.below hb)).mono ?_; rintro e w'' ⟨rfl, hb2⟩))
      go_ret
      exact ⟨⟨Y4, rfl, by have := G.out; omega, by have := G.out; omega, by have := G.out; omega, fun _ => H.out⟩, bel_trans hb hb2⟩
theorem float_c (u : Int) (u0 : 0 ≤ u) (u1 : u < 18446744073709551616) (w : World) (ht : Tabs w) :
    Calls Tryd.prog 20 #[.int .u64 u] w fun e w' => e = .returned (.string ⟨(fltT u).toArray⟩) ∧ Below w.heap.size w w' := by
  refine (float_core u (u % 9223372036854775808) _ w ht (by omega) (by omega) (and63 u u0 u1) (andNot63 u u0 u1) (by omega)).mono ?_
  rintro e w' ⟨⟨l, rfl, k1, k2, k3, k4⟩, hb⟩
  refine ⟨ret_s ?_, hb⟩
  rcases float_ways u u0 u1 with ⟨h, e⟩ | ⟨h, e⟩ | ⟨h, e⟩ | ⟨h1, h2, e⟩
  · rw [e, k1 h]
  · rw [e, k2 h]
  · rw [e, k3 h]
  · rw [e, k4 ⟨h1, h2⟩]
end Go.Proofs.YtfioeenaoepbdaaDoor.W
