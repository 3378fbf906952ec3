import Derived.Test.YtgmimmdojkoppaaGreatDoorFoZJ
import Derived.Test.YtgmimmdojkoppaaGreatDoorO9aJ
/- OpsCasts in plain words: a double that is cut, one more and one less. -/
namespace Go.Proofs.YtgmimmdojkoppaaGreatDoor.W.Nu
set_option linter.unusedVariables false
theorem fltW_fin (d : Int) (h : finB d = true) : Go.Proofs.YtgmimmdojkoppaaGreatDoor.W.fltW d = d := by
  have hn : Go.Proofs.YtgmimmdojkoppaaGreatDoor.W.nanB d = false := fin_nan d h
  unfold Go.Proofs.YtgmimmdojkoppaaGreatDoor.W.fltW
  rw [hn]
  rfl
theorem trunc_rng (a : Int) (h0' : a < 18446744073709551616) (h : finB a = true) (h1 : -9223372036854775808 * (one1 : Int) ≤ keyI a) (h2 : keyI a < 9223372036854775808 * one1) : -9223372036854775808 ≤ truncI a ∧ truncI a ≤ 9223372036854775807 := by
  obtain ⟨k1, k2⟩ := trunc_key a h0' h
  have p : (0 : Int) < one1 := one1_int
  by_cases g : 0 ≤ keyI a
  · obtain ⟨g1, g2⟩ := k1 g
    have b1 : truncI a < 9223372036854775808 := Int.lt_of_mul_lt_mul_right (a := (one1 : Int)) (by omega) (by omega)
    have b2 : -1 < truncI a := Int.lt_of_mul_lt_mul_right (a := (one1 : Int)) (by omega) (by omega)
    omega
  · obtain ⟨g1, g2⟩ := k2 (by omega)
    have b1 : truncI a < 1 := Int.lt_of_mul_lt_mul_right (a := (one1 : Int)) (by omega) (by omega)
    have b2 : -9223372036854775809 < truncI a := Int.lt_of_mul_lt_mul_right (a := (one1 : Int)) (by omega) (by omega)
    omega
theorem le_m (t d : Int) (h : finB d = true) (hk : t * one1 ≤ keyI d) : lessEqN true t 0 false 0 d = true := by
  have e : ordI true t 0 false 0 d = cmpI (t * one1) (keyI d) := by
    unfold ordI ordM
    rw [fin_nan d h]
    rfl
  unfold lessEqN
  rw [e]
  rcases Int.lt_or_eq_of_le hk with g | g
  · rw [cmpI_lt g]; rfl
  · rw [cmpI_eq g]; rfl
theorem ge_m (t d : Int) (h : finB d = true) (hk : keyI d ≤ t * one1) : lessEqN false 0 d true t 0 = true := by
  have e : ordI false 0 d true t 0 = turnI (cmpI (t * one1) (keyI d)) := by
    unfold ordI ordM
    rw [fin_nan d h]
    rfl
  unfold lessEqN
  rw [e]
  rcases Int.lt_or_eq_of_le hk with g | g
  · rw [cmpI_gt g]; rfl
  · rw [cmpI_eq g.symm]; rfl
theorem cast_in (D : Int) (d0 : 0 ≤ D) (d1 : D < 18446744073709551616) (hf : fitsB D = true) : ∃ t : Int, -9223372036854775808 ≤ t ∧ t ≤ 9223372036854775807 ∧ floatToIntVal .f64 D.toNat .i64 = some t ∧ lessEqN false 0 (Go.Proofs.YtgmimmdojkoppaaGreatDoor.W.fltW (opI .sub D (fromI 1))) true t 0 = true ∧ lessEqN true t 0 false 0 (Go.Proofs.YtgmimmdojkoppaaGreatDoor.W.fltW (opI .add D (fromI 1))) = true := by
  obtain ⟨hn, hfin, h1, h2⟩ := fits_fin D d0 d1 hf
  obtain ⟨t0, t1⟩ := trunc_rng D d1 hfin h1 h2
  have hT := part_from D d0 d1 hfin
  obtain ⟨r0, r1⟩ := fromI_range (truncI D)
  have p := one1_int
  have hT2 : fitsB (fromI (truncI D)) = true := by
    rw [fits_key _ r0 r1 (fromI_nan _), decide_eq_true_eq, hT]
    exact ⟨Int.mul_le_mul_of_nonneg_right t0 (by omega), Int.mul_lt_mul_of_pos_right (by omega) p⟩
  obtain ⟨-, fT, -, -⟩ := fits_fin _ r0 r1 hT2
  obtain ⟨⟨f1, k1⟩, f2, k2⟩ := cut_near D (fromI (truncI D)) d0 d1 hfin h1 h2 r0 r1 fT hT
  rw [hT] at k1 k2
  refine ⟨truncI D, t0, t1, trunc_val D d1 hfin h1 h2, ?_, ?_⟩
  · rw [fltW_fin _ f2]
    exact ge_m _ _ f2 k2
  · rw [fltW_fin _ f1]
    exact le_m _ _ f1 k1
theorem cast_back (i : Int) (h0 : -9007199254740992 ≤ i) (h1 : i ≤ 9007199254740992) : floatToIntVal .f64 (fromI i).toNat .i64 = some i ∧ fitsB (fromI i) = true ∧ Go.Proofs.YtgmimmdojkoppaaGreatDoor.W.fltW (fromI i) = fromI i := by
  obtain ⟨f, k⟩ := fromI_key i (by omega)
  obtain ⟨a, b⟩ := trunc_whole (fromI i) i (fromI_range i).1 (fromI_range i).2 f k (by omega) (by omega)
  exact ⟨a, b, fltW_fin _ f⟩
end Go.Proofs.YtgmimmdojkoppaaGreatDoor.W.Nu
