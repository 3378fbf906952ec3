/- The walk of the statement on signs ahead of a double's text. -/
import Derived.Test.YtmdpnoebpjoiaaaDoorST4
namespace Go.Proofs.YtmdpnoebpjoiaaaDoor.W
open Go.ChangeShapes Go.WideShapes Go.RowKit
set_option maxHeartbeats 400000 in
theorem textSigns_nan (u : Int) (w wk : World) (hS : St w wk)
    (cn : ∀ w, Calls Tryd.prog 22 #[.int .u64 u] w fun e w' => e = .returned (.bool true) ∧ w' = w)
    (cf : ∀ w, Tabs w → Calls Tryd.prog 11 #[.int .u64 u] w fun e w' => e = .returned (.string ⟨#[110, 97, 110]⟩) ∧ Below w.heap.size w w') :
    Calls Tryd.prog 8 #[.int .u64 u] wk fun e w' => e = .returned (.bool true) ∧ Below w.heap.size w w' := by
  go_enter Tryd.func8, Tryd.ntmps8
  go_wp2_with (first | (go_at_call 22; refine (cn _).mono ?_; rintro e wn ⟨rfl, hz⟩; (have hz' := hz.symm); subst hz'; clear hz) | (go_at_call 11; (with_reducible refine (cf _ hS.tabs).mono ?_); rintro e wn ⟨rfl, hb⟩; (replace hS := hS.go hb); clear hb) | (go_at_call 14; refine (awake_c _ hS.tabs).mono ?_; rintro e wn ⟨rfl, hb⟩; (replace hS := hS.go hb); clear hb))
  go_ret
  exact ⟨rfl, hS.below⟩
set_option maxHeartbeats 400000 in
theorem textSigns_minus (u x : Int) (X Y : ByteArray) (w wk : World) (hS : St w wk) (h0 : 0 < X.size) (he : X.toList.isEmpty = false) (hc : ((X[0].toNat : Int) == 45) = true) (hy : X.extract 1 X.size = Y)
    (cn : ∀ w, Calls Tryd.prog 22 #[.int .u64 u] w fun e w' => e = .returned (.bool false) ∧ w' = w)
    (cg : ∀ w, Calls Tryd.prog 23 #[.int .u64 u] w fun e w' => e = .returned (.int .u64 x) ∧ w' = w)
    (cf : ∀ w, Tabs w → Calls Tryd.prog 11 #[.int .u64 u] w fun e w' => e = .returned (.string X) ∧ Below w.heap.size w w')
    (cp : ∀ w, Tabs w → Calls Tryd.prog 17 #[.string Y] w fun e w' => e = .returned (.tuple #[.int .u64 x, .int .i64 0]) ∧ Below w.heap.size w w') :
    Calls Tryd.prog 8 #[.int .u64 u] wk fun e w' => e = .returned (.bool true) ∧ Below w.heap.size w w' := by
  go_enter Tryd.func8, Tryd.ntmps8
  go_wp2_with (first | (go_at_call 22; refine (cn _).mono ?_; rintro e wn ⟨rfl, hz⟩; (have hz' := hz.symm); subst hz'; clear hz) | (go_at_call 11; (with_reducible refine (cf _ hS.tabs).mono ?_); rintro e wn ⟨rfl, hb⟩; (replace hS := hS.go hb); clear hb) | (go_at_call 14; refine (awake_c _ hS.tabs).mono ?_; rintro e wn ⟨rfl, hb⟩; (replace hS := hS.go hb); clear hb) | (go_at_call 23; refine (cg _).mono ?_; rintro e wn ⟨rfl, hz⟩; (have hz' := hz.symm); subst hz'; clear hz) | (go_at_call 17; refine (cp _ hS.tabs).mono ?_; rintro e wn ⟨rfl, hb⟩; (replace hS := hS.go hb); clear hb))
  go_ret
  exact ⟨rfl, hS.below⟩
set_option maxHeartbeats 400000 in
theorem textSigns_plus (u x : Int) (X Y1 Y2 Y3 Y4 : ByteArray) (w wk : World) (hS : St w wk) (h0 : 0 < X.size) (he : X.toList.isEmpty = false) (hc : ((X[0].toNat : Int) == 45) = false)
    (a1 : ∀ w, (Op.stringOp .add ⟨#[45]⟩ X).run Tryd.prog w = .ok (.string Y1) w) (a2 : ∀ w, (Op.stringOp .add ⟨#[43]⟩ X).run Tryd.prog w = .ok (.string Y2) w)
    (a3 : ∀ w, (Op.stringOp .add ⟨#[45, 45]⟩ X).run Tryd.prog w = .ok (.string Y3) w) (a4 : ∀ w, (Op.stringOp .add ⟨#[32]⟩ X).run Tryd.prog w = .ok (.string Y4) w)
    (cn : ∀ w, Calls Tryd.prog 22 #[.int .u64 u] w fun e w' => e = .returned (.bool false) ∧ w' = w)
    (cg : ∀ w, Calls Tryd.prog 23 #[.int .u64 u] w fun e w' => e = .returned (.int .u64 x) ∧ w' = w)
    (cf : ∀ w, Tabs w → Calls Tryd.prog 11 #[.int .u64 u] w fun e w' => e = .returned (.string X) ∧ Below w.heap.size w w')
    (c1 : ∀ w, Tabs w → Calls Tryd.prog 17 #[.string Y1] w fun e w' => e = .returned (.tuple #[.int .u64 x, .int .i64 0]) ∧ Below w.heap.size w w')
    (c2 : ∀ w, Tabs w → Calls Tryd.prog 17 #[.string Y2] w fun e w' => e = .returned (.tuple #[.int .u64 0, .int .i64 20]) ∧ Below w.heap.size w w')
    (c3 : ∀ w, Tabs w → Calls Tryd.prog 17 #[.string Y3] w fun e w' => e = .returned (.tuple #[.int .u64 0, .int .i64 20]) ∧ Below w.heap.size w w')
    (c4 : ∀ w, Tabs w → Calls Tryd.prog 17 #[.string Y4] w fun e w' => e = .returned (.tuple #[.int .u64 0, .int .i64 20]) ∧ Below w.heap.size w w') :
    Calls Tryd.prog 8 #[.int .u64 u] wk fun e w' => e = .returned (.bool true) ∧ Below w.heap.size w w' := by
  go_enter Tryd.func8, Tryd.ntmps8
  go_wp2_with (first | (go_at_call 22; refine (cn _).mono ?_; rintro e wn ⟨rfl, hz⟩; (have hz' := hz.symm); subst hz'; clear hz) | (go_at_call 11; (with_reducible refine (cf _ hS.tabs).mono ?_); rintro e wn ⟨rfl, hb⟩; (replace hS := hS.go hb); clear hb) | (go_at_call 14; refine (awake_c _ hS.tabs).mono ?_; rintro e wn ⟨rfl, hb⟩; (replace hS := hS.go hb); clear hb) | (go_at_call 23; refine (cg _).mono ?_; rintro e wn ⟨rfl, hz⟩; (have hz' := hz.symm); subst hz'; clear hz) | (go_at_call 17; (first | (with_reducible refine (c1 _ hS.tabs).mono ?_) | (with_reducible refine (c2 _ hS.tabs).mono ?_) | (with_reducible refine (c3 _ hS.tabs).mono ?_) | (with_reducible refine (c4 _ hS.tabs).mono ?_)); rintro e wn ⟨rfl, hb⟩; (replace hS := hS.go hb); clear hb))
  go_ret
  exact ⟨rfl, hS.below⟩
theorem head_is (c : UInt8) (l : List UInt8) (h : 0 < (⟨(c :: l).toArray⟩ : ByteArray).size) : (⟨(c :: l).toArray⟩ : ByteArray)[0] = c := rfl
theorem drop_one (c : UInt8) (l : List UInt8) : (⟨(c :: l).toArray⟩ : ByteArray).extract 1 (⟨(c :: l).toArray⟩ : ByteArray).size = ⟨l.toArray⟩ := cut_from ⟨(c :: l).toArray⟩ 1
theorem flt_head (u : Int) (u0 : 0 ≤ u) (u1 : u < 9223372036854775808) (hn : nanB u = false) : ∃ c r, fltT u = c :: r ∧ c ≠ 45 := by
  have e := fltT_sign u u0 (by omega) hn
  have d : decide (9223372036854775808 ≤ u) = false := decide_eq_false (by omega)
  rw [d] at e
  have e2 : fltT u = posT (u % 9223372036854775808).toNat := e
  have h := posT_head (u % 9223372036854775808).toNat
  rw [← e2] at h
  cases hf : fltT u with
  | nil => rw [hf] at h; rcases h with h | h <;> cases h
  | cons c r =>
    refine ⟨c, r, rfl, ?_⟩
    rw [hf] at h
    intro hc
    subst hc
    rcases h with h | h <;> (simp only [List.head?_cons, Option.some.injEq] at h; revert h; decide)
theorem parseF (l : List UInt8) (x e : Int) (hl : l.length ≤ 1000) (h : readF l = (x, e)) (w : World) (ht : Tabs w) :
    Calls Tryd.prog 17 #[.string ⟨l.toArray⟩] w fun r w' => r = .returned (.tuple #[.int .u64 x, .int .i64 e]) ∧ Below w.heap.size w w' := by
  have c := parseFloat_c ⟨l.toArray⟩ (str_max l hl) w ht
  have e1 : readF (⟨l.toArray⟩ : ByteArray).data.toList = (x, e) := h
  rw [e1] at c
  exact c
theorem toList_str (l : List UInt8) : (⟨l.toArray⟩ : ByteArray).toList = l := by rw [toList_eq]
theorem textSigns_walk (a0 : Int) (h0 : (Lit.int .u64 a0).wf = true) (w : World) (ht : Tabs w) :
    Calls Tryd.prog 8 #[.int .u64 a0] w fun e w' => e = .returned (.bool true) ∧ Below w.heap.size w w' := by
  replace h0 := bounds_u64 h0
  have cn := refNaN_c a0 (by omega) (by omega)
  have cf := fun w h => float_c a0 (by omega) (by omega) w h
  cases hn : nanB a0 with
  | true =>
    rw [hn] at cn
    have e : fltT a0 = nanT := by unfold fltT; rw [if_pos hn]
    rw [e] at cf
    exact textSigns_nan a0 w w (St.start ht) cn cf
  | false =>
    rw [hn] at cn
    have cg := softNeg_c a0 (by omega) (by omega)
    have hg := negI_plain a0 hn
    have fl := flt_len a0 (by omega) (by omega)
    by_cases hs : 9223372036854775808 ≤ a0
    · have em := flt_minus a0 hs (by omega) hn
      rw [if_neg (by omega)] at hg
      rw [hg] at cg
      have hn2 : nanB (a0 - 9223372036854775808) = false := by
        have := negI_nan a0
        rw [hg, hn] at this
        exact this
      have rb := readF_back (a0 - 9223372036854775808) (by omega) (by omega)
      have fw : fltW (a0 - 9223372036854775808) = a0 - 9223372036854775808 := by unfold fltW; rw [hn2]; simp
      rw [fw] at rb
      rw [em] at cf fl
      simp only [List.length_cons] at fl
      refine textSigns_minus a0 _ _ _ w w (St.start ht) (by rw [str_len]; simp) (by rw [toList_str]; rfl) ?_ (drop_one _ _) cn cg cf (fun w h => parseF _ _ _ (by omega) rb w h)
      rfl
    · rw [if_pos (by omega)] at hg
      rw [hg] at cg
      obtain ⟨c, r, hr, hc⟩ := flt_head a0 (by omega) (by omega) hn
      have hn2 : nanB (a0 + 9223372036854775808) = false := by
        have := negI_nan a0
        rw [hg, hn] at this
        exact this
      have em := flt_minus (a0 + 9223372036854775808) (by omega) (by omega) hn2
      have e0 : a0 + 9223372036854775808 - 9223372036854775808 = a0 := by omega
      rw [e0] at em
      have rb := readF_back (a0 + 9223372036854775808) (by omega) (by omega)
      have fw : fltW (a0 + 9223372036854775808) = a0 + 9223372036854775808 := by unfold fltW; rw [hn2]; simp
      rw [fw, em] at rb
      have r2 : readF (43 :: fltT a0) = (0, 20) := readF_other 43 _ (by decide) (by decide) (by decide) (by decide) (by simp; omega)
      have r3 : readF (45 :: 45 :: fltT a0) = (0, 20) := readF_twice _ (by omega)
      have r4 : readF (32 :: fltT a0) = (0, 20) := readF_other 32 _ (by decide) (by decide) (by decide) (by decide) (by simp; omega)
      have hz : 0 < (⟨(fltT a0).toArray⟩ : ByteArray).size := by rw [str_len, hr]; simp
      refine textSigns_plus a0 (a0 + 9223372036854775808) ⟨(fltT a0).toArray⟩ ⟨(45 :: fltT a0).toArray⟩ ⟨(43 :: fltT a0).toArray⟩ ⟨(45 :: 45 :: fltT a0).toArray⟩ ⟨(32 :: fltT a0).toArray⟩ w w (St.start ht) hz (by rw [toList_str, hr]; rfl) ?_
        (fun w => run_string_add_lists w [45] _ (by decide) (by omega)) (fun w => run_string_add_lists w [43] _ (by decide) (by omega)) (fun w => run_string_add_lists w [45, 45] _ (by decide) (by omega)) (fun w => run_string_add_lists w [32] _ (by decide) (by omega))
        cn cg cf (fun w h => parseF _ _ _ (by simp; omega) rb w h) (fun w h => parseF _ _ _ (by simp; omega) r2 w h) (fun w h => parseF _ _ _ (by simp; omega) r3 w h) (fun w h => parseF _ _ _ (by simp; omega) r4 w h)
      have hh := head_at ⟨(fltT a0).toArray⟩ hz
      rw [beq_eq_false_iff_ne]
      intro e
      have e2 : (⟨(fltT a0).toArray⟩ : ByteArray)[0] = 45 := by
        apply UInt8.toNat_inj.1
        have : ((⟨(fltT a0).toArray⟩ : ByteArray)[0]).toNat = 45 := by omega
        rw [this]; rfl
      have e3 : (⟨(fltT a0).toArray⟩ : ByteArray).data.toList.head? = some 45 := by
        rw [← e2]
        have := drop_head ⟨(fltT a0).toArray⟩ 0 hz
        simpa using this
      have e4 : (fltT a0).head? = some 45 := e3
      rw [hr] at e4
      injection e4 with e4
      exact hc e4
end Go.Proofs.YtmdpnoebpjoiaaaDoor.W
