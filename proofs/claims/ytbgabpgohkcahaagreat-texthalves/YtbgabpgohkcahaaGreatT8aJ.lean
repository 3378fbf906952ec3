import Derived.Test.YtbgabpgohkcahaaGreatBase0
import Derived.Lib.ConvBytes
/- Package text: order. -/
namespace Go.Proofs.YtbgabpgohkcahaaGreat.W
open Go.ChangeShapes Go.WideShapes Go.RowKit
set_option linter.unusedVariables false
/-- how two rows of bytes stand to each other -/
def ordL : List Nat → List Nat → Int
  | [], [] => 0
  | [], _ :: _ => -1
  | _ :: _, [] => 1
  | a :: x, b :: y => if a = b then ordL x y else if a < b then -1 else 1
theorem ordL_self (x : List Nat) : ordL x x = 0 := by
  induction x with
  | nil => rfl
  | cons a x ih => simp [ordL, ih]
theorem ordL_eq (x : List Nat) : ∀ y, ordL x y = 0 → x = y := by
  induction x with
  | nil => intro y h; cases y with
    | nil => rfl
    | cons b y => simp [ordL] at h
  | cons a x ih => intro y h; cases y with
    | nil => simp [ordL] at h
    | cons b y =>
      unfold ordL at h
      by_cases c : a = b
      · rw [if_pos c] at h; rw [c, ih y h]
      · rw [if_neg c] at h; split at h <;> simp at h
theorem ordL_neg (x : List Nat) : ∀ y, ordL x y = - ordL y x := by
  induction x with
  | nil => intro y; cases y <;> simp [ordL]
  | cons a x ih => intro y; cases y with
    | nil => simp [ordL]
    | cons b y =>
      unfold ordL
      by_cases c : a = b
      · rw [if_pos c, if_pos c.symm]; exact ih y
      · rw [if_neg c, if_neg (Ne.symm c)]
        by_cases d : a < b
        · rw [if_pos d, if_neg (by omega)]
        · rw [if_neg d, if_pos (by omega)]; rfl
/-- as numbers -/
def cmpI (a b : Int) : Int := if a < b then -1 else if a > b then 1 else 0
theorem ordL_at (x y : List Nat) (k : Nat) (h : x.take k = y.take k) (hx : k ≤ x.length) (hy : k ≤ y.length) : ordL x y = ordL (x.drop k) (y.drop k) := by
  induction k generalizing x y with
  | zero => rfl
  | succ k ih =>
    cases x with
    | nil => simp at hx
    | cons a x => cases y with
      | nil => simp at hy
      | cons b y =>
        simp at h
        simp at hx hy
        rw [List.drop_succ_cons, List.drop_succ_cons, ← ih x y h.2 hx hy]
        show (if a = b then ordL x y else _) = _
        rw [if_pos h.1]
theorem ordL_end1 (x y : List Nat) (k : Nat) (h : x.take k = y.take k) (hx : k < x.length) (hy : k = y.length) : ordL x y = 1 := by
  rw [ordL_at x y k h (by omega) (by omega), List.drop_eq_nil_of_le (by omega : y.length ≤ k), List.drop_eq_getElem_cons hx]
  rfl
theorem ordL_ne (x y : List Nat) (k : Nat) (h : x.take k = y.take k) (a b : Nat) (hx : x[k]? = some a) (hy : y[k]? = some b) (hne : a ≠ b) : ordL x y = cmpI a b := by
  obtain ⟨lx, ex⟩ := List.getElem?_eq_some_iff.1 hx
  obtain ⟨ly, ey⟩ := List.getElem?_eq_some_iff.1 hy
  rw [ordL_at x y k h (by omega) (by omega), List.drop_eq_getElem_cons lx, List.drop_eq_getElem_cons ly, ex, ey]
  unfold ordL cmpI
  rw [if_neg hne]
  by_cases d : a < b
  · rw [if_pos d, if_pos (by omega)]
  · rw [if_neg d, if_neg (by omega), if_pos (by omega)]
theorem ordL_end (x y : List Nat) (h : x = y.take x.length) (hl : x.length ≤ y.length) : ordL x y = cmpI x.length y.length := by
  have h1 := ordL_at x y x.length (by rw [List.take_length]; exact h) (Nat.le_refl _) hl
  rw [h1, List.drop_length]
  by_cases c : x.length = y.length
  · rw [List.drop_eq_nil_of_le (by omega)]
    unfold cmpI ordL
    rw [if_neg (by omega), if_neg (by omega)]
  · rw [List.drop_eq_getElem_cons (by omega : x.length < y.length)]
    unfold cmpI ordL
    rw [if_pos (by omega)]
theorem cmpB_c (a b : Int) (W : World) : Calls Tryz.prog 46 #[.int .u8 a, .int .u8 b] W fun e w' => e = .returned (.int .i64 (cmpI a b)) ∧ w' = W := by
  unfold cmpI
  have cn : ∀ (a : Int) (w : World), Calls Tryz.prog 73 #[.int .u8 a] w fun e w' => e = .returned (.bool false) ∧ w' = w := by
    intro a w
    go_enter Tryz.func73, Tryz.ntmps73
    go_wp2
    go_ret
    exact ⟨by simp, rfl⟩
  by_cases h1 : a < b
  · rw [if_pos h1]
    go_enter Tryz.func46, Tryz.ntmps46
    go_wp2_with (go_at_call 73; (with_reducible refine (cn _ _).mono ?_); rintro e w' ⟨rfl, hw⟩; (have hw' := hw.symm); subst hw'; clear hw)
    go_ret
    exact ⟨rfl, rfl⟩
  · rw [if_neg h1]
    by_cases h2 : a > b
    · rw [if_pos h2]
      go_enter Tryz.func46, Tryz.ntmps46
      go_wp2_with (go_at_call 73; (with_reducible refine (cn _ _).mono ?_); rintro e w' ⟨rfl, hw⟩; (have hw' := hw.symm); subst hw'; clear hw)
      go_ret
      exact ⟨rfl, rfl⟩
    · rw [if_neg h2]
      go_enter Tryz.func46, Tryz.ntmps46
      go_wp2_with (go_at_call 73; (with_reducible refine (cn _ _).mono ?_); rintro e w' ⟨rfl, hw⟩; (have hw' := hw.symm); subst hw'; clear hw)
      go_ret
      exact ⟨rfl, rfl⟩
theorem cmpN_c (a b : Int) (W : World) : Calls Tryz.prog 47 #[.int .i64 a, .int .i64 b] W fun e w' => e = .returned (.int .i64 (cmpI a b)) ∧ w' = W := by
  unfold cmpI
  have cn : ∀ (a : Int) (w : World), Calls Tryz.prog 74 #[.int .i64 a] w fun e w' => e = .returned (.bool false) ∧ w' = w := by
    intro a w
    go_enter Tryz.func74, Tryz.ntmps74
    go_wp2
    go_ret
    exact ⟨by simp, rfl⟩
  by_cases h1 : a < b
  · rw [if_pos h1]
    go_enter Tryz.func47, Tryz.ntmps47
    go_wp2_with (go_at_call 74; (with_reducible refine (cn _ _).mono ?_); rintro e w' ⟨rfl, hw⟩; (have hw' := hw.symm); subst hw'; clear hw)
    go_ret
    exact ⟨rfl, rfl⟩
  · rw [if_neg h1]
    by_cases h2 : a > b
    · rw [if_pos h2]
      go_enter Tryz.func47, Tryz.ntmps47
      go_wp2_with (go_at_call 74; (with_reducible refine (cn _ _).mono ?_); rintro e w' ⟨rfl, hw⟩; (have hw' := hw.symm); subst hw'; clear hw)
      go_ret
      exact ⟨rfl, rfl⟩
    · rw [if_neg h2]
      go_enter Tryz.func47, Tryz.ntmps47
      go_wp2_with (go_at_call 74; (with_reducible refine (cn _ _).mono ?_); rintro e w' ⟨rfl, hw⟩; (have hw' := hw.symm); subst hw'; clear hw)
      go_ret
      exact ⟨rfl, rfl⟩
/-- the bytes of a string, as numbers -/
def byL (t : ByteArray) : List Nat := t.data.toList.map UInt8.toNat
theorem byL_len (t : ByteArray) : (byL t).length = t.size := by unfold byL; rw [List.length_map]; rfl
theorem byL_get (t : ByteArray) (k : Nat) (h : k < t.size) : (byL t)[k]? = some (t[k]).toNat := by
  unfold byL
  rw [List.getElem?_map]
  have h2 : k < t.data.size := h
  have : t.data.toList[k]? = some t[k] := by
    rw [Array.getElem?_toList, Array.getElem?_eq_getElem h2]; rfl
  rw [this]; rfl
theorem take_byL {x y : List Nat} {k a : Nat} (h : x.take k = y.take k) (hx : x[k]? = some a) (hy : y[k]? = some a) : x.take (k + 1) = y.take (k + 1) := by
  rw [List.take_add_one, List.take_add_one, h, hx, hy]
set_option maxRecDepth 100000 in
theorem order_c (x y : ByteArray) (hx : x.size ≤ 100000000) (hy : y.size ≤ 100000000) (W : World) : Calls Tryz.prog 28 #[.string x, .string y] W fun e w' => e = .returned (.int .i64 (ordL (byL x) (byL y))) ∧ Below W.heap.size W w' := by
  have hcv : (convert 9 45 (.string x)).run Tryz.prog W = .ok (.slice (some ⟨W.heap.size, 0, none⟩) x.size (grownCap W x.size 0 5)) (Lib.bytesWorld W 5 x) := Lib.run_convert_string_bytes W _ _ _ x Tryz.underlying9 Tryz.underlying45 Tryz.underlying5
  have hBb : Below W.heap.size W (Lib.bytesWorld W 5 x) := ⟨rfl, rfl, rfl, by rw [Lib.bytesWorld_size]; omega, fun k hk => Lib.bytesWorld_at_old W _ x k hk⟩
  have hcell : ∀ i, i < x.size → ∃ n : Nat, (byL x)[i]? = some n ∧ (Lib.bytesWorld W 5 x).cell? ⟨W.heap.size, i, none⟩ = some (.int .u8 (n : Nat)) := by
    intro i hi
    refine ⟨_, byL_get x i hi, ?_⟩
    rw [Lib.bytesWorld_cell W _ x i (by omega)]
    have hi2 : i < x.data.size := hi
    simp
    rw [Array.getElem?_eq_getElem hi2]
    rfl
  generalize grownCap W x.size 0 5 = cp at *
  generalize Lib.bytesWorld W 5 x = Wb at *
  go_enter Tryz.func28, Tryz.ntmps28
  go_wp2
  have LX := hid (byL_len x)
  have LY := hid (byL_len y)
  have HC := hid hcell
  clear hcell
  go_loop [10] (fun ii => ∃ k : Nat, k ≤ x.size ∧ k ≤ y.size ∧ (byL x).take k = (byL y).take k ∧ ii = .int .i64 k) (fun ii => x.size - (intOf ii).toNat)
  case atStart => exact ⟨0, Nat.zero_le _, Nat.zero_le _, rfl, rfl⟩
  case round =>
    obtain ⟨k, hkx, hky, htk, rfl⟩ := hrel
    have w1 : IntKind.i64.wrap ((k : Int) + 1) = (k : Int) + 1 := by rw [IntKind.wrap_i64]; omega
    by_cases hlt : k < x.size
    · obtain ⟨xk, hxk, hc⟩ := HC.out k hlt
      have k0 : (0 : Int) ≤ k := by omega
      have k1 : (k : Int) < x.size := by omega
      by_cases hy1 : k = y.size
      · have HR := hid (ordL_end1 (byL x) (byL y) k htk (by rw [LX.out]; omega) (by rw [LY.out]; omega))
        clear htk hlt hkx hky hxk w1 k0
        subst hy1
        go_wp2
        go_ret
        exact ⟨by rw [HR.out]; rfl, hBb⟩
      · have g1 : ¬ (k : Int) = y.size := by omega
        have hlt2 : k < y.size := by omega
        have hyk := byL_get y k hlt2
        obtain ⟨yk, eyk⟩ : ∃ n, (y[k]).toNat = n := ⟨_, rfl⟩
        rw [eyk] at hyk
        by_cases heq : xk = yk
        · subst heq
          have htk2 := hid (take_byL htk hxk hyk)
          have HL := hid hlt
          have HL2 := hid hlt2
          clear htk hyk hlt hkx hky hy1 hxk
          go_wp2
          go_round
          case rel => exact ⟨k + 1, HL.out, HL2.out, htk2.out, by go_num⟩
          case measure => show x.size - (k + 1 : Int).toNat < x.size - (k : Int).toNat; have := HL.out; omega
        · have HR := hid (ordL_ne (byL x) (byL y) k htk xk yk hxk hyk heq)
          have hne : ¬ ((xk : Nat) : Int) = ((yk : Nat) : Int) := by omega
          clear htk hyk hlt hkx hky hy1 hxk heq
          go_wp2_with (go_at_call 46; (with_reducible refine (cmpB_c _ _ _).mono ?_); rintro e w' ⟨rfl, hw⟩; (have hw' := hw.symm); subst hw'; clear hw)
          go_ret
          exact ⟨by rw [HR.out]; rfl, hBb⟩
    · have k1 : ¬ (k : Int) < x.size := by omega
      have hr := ordL_end (byL x) (byL y) (by have e := htk; rw [List.take_of_length_le (by rw [LX.out]; omega)] at e; rw [LX.out, show x.size = k by omega]; exact e) (by rw [LX.out, LY.out]; omega)
      rw [LX.out, LY.out] at hr
      have HR := hid hr
      clear htk hr hlt hkx hky
      go_wp2_with (go_at_call 47; (with_reducible refine (cmpN_c _ _ _).mono ?_); rintro e w' ⟨rfl, hw⟩; (have hw' := hw.symm); subst hw'; clear hw)
      go_ret
      exact ⟨by rw [HR.out]; rfl, hBb⟩
end Go.Proofs.YtbgabpgohkcahaaGreat.W
