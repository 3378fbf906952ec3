/- Contracts of package numtext: the power behind the digits; names instead of digits. -/
import Derived.Test.YtdoojooepkdlhaaDoorA4
namespace Go.Proofs.YtdoojooepkdlhaaDoor.W
open Go.ChangeShapes Go.WideShapes Go.RowKit

theorem prefix_two (l : List UInt8) (a b : UInt8) : (Lib.hasPrefix l [a, b] = true ∧ l = a :: b :: Lib.trimPrefix l [a, b]) ∨ (Lib.hasPrefix l [a, b] = false ∧ Lib.trimPrefix l [a, b] = l ∧ ∀ r, l ≠ a :: b :: r) := by
  unfold Lib.trimPrefix Lib.hasPrefix
  by_cases h : ∃ r, l = a :: b :: r
  · obtain ⟨r, rfl⟩ := h
    refine Or.inl ⟨by simp [List.isPrefixOf], ?_⟩
    simp [List.isPrefixOf]
  · refine Or.inr ?_
    have e : List.isPrefixOf [a, b] l = false := by
      rw [Bool.eq_false_iff]
      intro e
      rw [List.isPrefixOf_iff_prefix] at e
      obtain ⟨r, hr⟩ := e
      exact h ⟨r, hr.symm⟩
    rw [e]
    exact ⟨rfl, rfl, fun r hr => h ⟨r, hr⟩⟩
/-- the power that a text from its p on says; or none -/
def powR (r : List UInt8) : Option Int :=
  match r with
  | 112 :: sg :: ds => if (sg = 43 ∨ sg = 45) ∧ ds ≠ [] ∧ ds.length ≤ 5 ∧ ds.all digB = true then some (if sg = 45 then -(valD ds : Int) else valD ds) else none
  | _ => none
theorem readPow_powR (N b : Nat) (r : List UInt8) : readPow N b r = (powR r).map fun p => (N, p - 4 * (b : Int)) := by
  unfold readPow powR
  split
  · rename_i sg ds
    by_cases h : (sg = 43 ∨ sg = 45) ∧ ds ≠ [] ∧ ds.length ≤ 5 ∧ ds.all digB = true
    · simp only [if_pos h]; rfl
    · simp only [if_neg h]; rfl
  · rename_i hn
    split
    · exact (hn _ _ rfl).elim
    · rfl
theorem powR_ok (sg : UInt8) (ds : List UInt8) (h1 : sg = 43 ∨ sg = 45) : powR (112 :: sg :: ds) = if allD ds = true ∧ ds.length ≤ 5 then some (if sg = 45 then -(valD ds : Int) else valD ds) else none := by
  unfold powR allD
  have e : ((sg = 43 ∨ sg = 45) ∧ ds ≠ [] ∧ ds.length ≤ 5 ∧ ds.all digB = true) ↔ ((!ds.isEmpty && ds.all digB) = true ∧ ds.length ≤ 5) := by
    rw [Bool.and_eq_true]
    constructor
    · rintro ⟨-, a, b, c⟩
      exact ⟨⟨by simpa using a, c⟩, b⟩
    · rintro ⟨⟨a, c⟩, b⟩
      exact ⟨h1, by simpa using a, b, c⟩
  by_cases h : (sg = 43 ∨ sg = 45) ∧ ds ≠ [] ∧ ds.length ≤ 5 ∧ ds.all digB = true
  · simp only [if_pos h, if_pos (e.1 h)]
  · simp only [if_neg h, if_neg (fun g => h (e.2 g))]
theorem powR_no (r : List UInt8) (h1 : ∀ d, r ≠ 112 :: 43 :: d) (h2 : ∀ d, r ≠ 112 :: 45 :: d) : powR r = none := by
  unfold powR
  split
  · rename_i sg ds
    rw [if_neg]
    rintro ⟨e | e, -⟩
    · exact h1 ds (by rw [e])
    · exact h2 ds (by rw [e])
  · rfl
theorem valD_small (s : ByteArray) (h : s.data.toList.all digB = true) (hs : s.size ≤ 5) (k : Nat) : valD (s.data.toList.take k) < 100000 := by
  have h1 := valD_take s.data.toList k
  have h2 := valD_le s.data.toList (fun c hc => of_decide_eq_true (List.all_eq_true.1 h c hc))
  have h3 : 10 ^ s.data.toList.length ≤ 10 ^ 5 := Nat.pow_le_pow_right (by decide) (by rw [size_list]; omega)
  have h4 : (10 : Nat) ^ 5 = 100000 := by decide
  omega
theorem sub48i (c : UInt8) (h : 48 ≤ c.toNat ∧ c.toNat ≤ 57) : IntKind.i64.wrap (IntKind.u8.wrap ((c.toNat : Int) - 48)) = (c.toNat : Int) - 48 := by
  rw [IntKind.wrap_u8, IntKind.wrap_i64]; omega
/-- what is answered of the digits behind p and a sign -/
def powAns (m : Bool) (l : List UInt8) : Value := if allD l = true ∧ l.length ≤ 5 then .tuple #[.int .i64 (if m = true then -(valD l : Int) else valD l), .bool true] else .tuple #[.int .i64 0, .bool false]
theorem powAns_no (m : Bool) (l : List UInt8) (h : ¬ (allD l = true ∧ l.length ≤ 5)) : powAns m l = .tuple #[.int .i64 0, .bool false] := by unfold powAns; rw [if_neg h]
theorem powAns_yes (m : Bool) (l : List UInt8) (h : allD l = true ∧ l.length ≤ 5) : powAns m l = .tuple #[.int .i64 (if m = true then -(valD l : Int) else valD l), .bool true] := by unfold powAns; rw [if_pos h]
set_option maxHeartbeats 400000 in
theorem readPower_plus (s D : ByteArray) (w : World) (hD : D.size ≤ maxLen)
    (c1 : ∀ w, Calls Tryd.prog 53 #[.string s, .string ⟨#[112, 43]⟩] w fun e w' => e = .returned (.tuple #[.string D, .bool true]) ∧ w' = w) :
    Calls Tryd.prog 59 #[.string s] w fun e w' => e = .returned (powAns false D.data.toList) ∧ w' = w := by
  have sz := size_list D
  by_cases h5 : D.size ≤ 5
  · cases ha : allD D.data.toList with
    | false =>
      have H := hid (powAns_no false D.data.toList (by rw [ha]; rintro ⟨h, -⟩; cases h))
      go_enter Tryd.func59, Tryd.ntmps59
      go_wp2_with (first | (go_at_call 53; (with_reducible refine (c1 _).mono ?_); rintro e w' ⟨rfl, rfl⟩) | (go_at_call 54; (with_reducible refine (allDecimal_c _ hD _).mono ?_); rintro e w' ⟨rfl, rfl⟩))
      go_ret2
      exact ⟨by rw [H.out]; rfl, rfl⟩
    | true =>
      have hd : D.data.toList.all digB = true := by unfold allD at ha; rw [Bool.and_eq_true] at ha; exact ha.2
      have HD := hid hd
      have H := hid (powAns_yes false D.data.toList ⟨ha, by omega⟩)
      clear hd
      go_enter Tryd.func59, Tryd.ntmps59
      go_wp2_with (first | (go_at_call 53; (with_reducible refine (c1 _).mono ?_); rintro e w' ⟨rfl, rfl⟩) | (go_at_call 54; (with_reducible refine (allDecimal_c _ hD _).mono ?_); rintro e w' ⟨rfl, rfl⟩))
      go_loop [7, 33] (fun v i => ∃ k : Nat, k ≤ D.size ∧ i = .int .i64 k ∧ v = .int .i64 (valD (D.data.toList.take k))) (fun _ i => D.size - (intOf i).toNat)
      case atStart => exact ⟨0, Nat.zero_le _, rfl, rfl⟩
      case round =>
        obtain ⟨k, hk, rfl, rfl⟩ := hrel
        by_cases hlt : k < D.size
        · obtain ⟨d0, d1⟩ := dig_at D HD.out k hlt
          have HS := hid (valD_step D k hlt)
          have e1 := sub48i D[k] ⟨d0, d1⟩
          have hv := valD_small D HD.out h5 k
          go_wp2_with fail
          go_round
          case rel => exact ⟨k + 1, hlt, by go_num, int_eq (by have := HS.out; go_num)⟩
          case measure => simp [intOf]; omega
        · have hv := valD_small D HD.out h5 k
          rw [take_all D k hlt] at hv ⊢
          go_wp2_with fail
          go_ret2
          refine ⟨?_, rfl⟩
          rw [H.out]
          exact ret_ib (by rw [if_neg (by decide)]) rfl
  · go_enter Tryd.func59, Tryd.ntmps59
    have H := hid (powAns_no false D.data.toList (by rintro ⟨-, h⟩; omega))
    go_wp2_with (first | (go_at_call 53; (with_reducible refine (c1 _).mono ?_); rintro e w' ⟨rfl, rfl⟩) | (go_at_call 54; (with_reducible refine (allDecimal_c _ hD _).mono ?_); rintro e w' ⟨rfl, rfl⟩))
    go_ret2
    exact ⟨by rw [H.out]; rfl, rfl⟩
set_option maxHeartbeats 400000 in
theorem readPower_minus (s D D0 : ByteArray) (w : World) (hD : D.size ≤ maxLen)
    (c1 : ∀ w, Calls Tryd.prog 53 #[.string s, .string ⟨#[112, 43]⟩] w fun e w' => e = .returned (.tuple #[.string D0, .bool false]) ∧ w' = w)
    (c2 : ∀ w, Calls Tryd.prog 53 #[.string s, .string ⟨#[112, 45]⟩] w fun e w' => e = .returned (.tuple #[.string D, .bool true]) ∧ w' = w) :
    Calls Tryd.prog 59 #[.string s] w fun e w' => e = .returned (powAns true D.data.toList) ∧ w' = w := by
  have sz := size_list D
  by_cases h5 : D.size ≤ 5
  · cases ha : allD D.data.toList with
    | false =>
      have H := hid (powAns_no true D.data.toList (by rw [ha]; rintro ⟨h, -⟩; cases h))
      go_enter Tryd.func59, Tryd.ntmps59
      go_wp2_with (first | (go_at_call 53; (first | (with_reducible refine (c1 _).mono ?_) | (with_reducible refine (c2 _).mono ?_)); rintro e w' ⟨rfl, rfl⟩) | (go_at_call 54; (with_reducible refine (allDecimal_c _ hD _).mono ?_); rintro e w' ⟨rfl, rfl⟩))
      go_ret2
      exact ⟨by rw [H.out]; rfl, rfl⟩
    | true =>
      have hd : D.data.toList.all digB = true := by unfold allD at ha; rw [Bool.and_eq_true] at ha; exact ha.2
      have HD := hid hd
      have H := hid (powAns_yes true D.data.toList ⟨ha, by omega⟩)
      clear hd
      go_enter Tryd.func59, Tryd.ntmps59
      go_wp2_with (first | (go_at_call 53; (first | (with_reducible refine (c1 _).mono ?_) | (with_reducible refine (c2 _).mono ?_)); rintro e w' ⟨rfl, rfl⟩) | (go_at_call 54; (with_reducible refine (allDecimal_c _ hD _).mono ?_); rintro e w' ⟨rfl, rfl⟩))
      go_loop [7, 33] (fun v i => ∃ k : Nat, k ≤ D.size ∧ i = .int .i64 k ∧ v = .int .i64 (valD (D.data.toList.take k))) (fun _ i => D.size - (intOf i).toNat)
      case atStart => exact ⟨0, Nat.zero_le _, rfl, rfl⟩
      case round =>
        obtain ⟨k, hk, rfl, rfl⟩ := hrel
        by_cases hlt : k < D.size
        · obtain ⟨d0, d1⟩ := dig_at D HD.out k hlt
          have HS := hid (valD_step D k hlt)
          have e1 := sub48i D[k] ⟨d0, d1⟩
          have hv := valD_small D HD.out h5 k
          go_wp2_with fail
          go_round
          case rel => exact ⟨k + 1, hlt, by go_num, int_eq (by have := HS.out; go_num)⟩
          case measure => simp [intOf]; omega
        · have hv := valD_small D HD.out h5 k
          rw [take_all D k hlt] at hv ⊢
          go_wp2_with fail
          go_ret2
          refine ⟨?_, rfl⟩
          rw [H.out]
          exact ret_ib (by rw [if_pos trivial]) rfl
  · go_enter Tryd.func59, Tryd.ntmps59
    have H := hid (powAns_no true D.data.toList (by rintro ⟨-, h⟩; omega))
    go_wp2_with (first | (go_at_call 53; (first | (with_reducible refine (c1 _).mono ?_) | (with_reducible refine (c2 _).mono ?_)); rintro e w' ⟨rfl, rfl⟩) | (go_at_call 54; (with_reducible refine (allDecimal_c _ hD _).mono ?_); rintro e w' ⟨rfl, rfl⟩))
    go_ret2
    exact ⟨by rw [H.out]; rfl, rfl⟩
set_option maxHeartbeats 400000 in
theorem readPower_none (s D0 D1 : ByteArray) (w : World)
    (c1 : ∀ w, Calls Tryd.prog 53 #[.string s, .string ⟨#[112, 43]⟩] w fun e w' => e = .returned (.tuple #[.string D0, .bool false]) ∧ w' = w)
    (c2 : ∀ w, Calls Tryd.prog 53 #[.string s, .string ⟨#[112, 45]⟩] w fun e w' => e = .returned (.tuple #[.string D1, .bool false]) ∧ w' = w) :
    Calls Tryd.prog 59 #[.string s] w fun e w' => e = .returned (.tuple #[.int .i64 0, .bool false]) ∧ w' = w := by
  go_enter Tryd.func59, Tryd.ntmps59
  go_wp2_with (go_at_call 53; (first | (with_reducible refine (c1 _).mono ?_) | (with_reducible refine (c2 _).mono ?_)); rintro e w' ⟨rfl, rfl⟩)
  go_ret2
  exact ⟨rfl, rfl⟩
theorem readPower_c (s : ByteArray) (hs : s.size ≤ maxLen) (w : World) :
    Calls Tryd.prog 59 #[.string s] w fun e w' => e = .returned (.tuple #[.int .i64 ((powR s.data.toList).getD 0), .bool (powR s.data.toList).isSome]) ∧ w' = w := by
  have k1 := fun w => cutPrefix_c s ⟨#[112, 43]⟩ w
  have k2 := fun w => cutPrefix_c s ⟨#[112, 45]⟩ w
  have sz := size_list s
  rcases prefix_two s.data.toList 112 43 with ⟨h1, h2⟩ | ⟨h1, h2, h3⟩
  · have e1 : Lib.hasPrefix s.data.toList (⟨#[112, 43]⟩ : ByteArray).data.toList = true := h1
    generalize hd : Lib.trimPrefix s.data.toList [112, 43] = d at h2
    have e2 : Lib.trimPrefix s.data.toList (⟨#[112, 43]⟩ : ByteArray).data.toList = d := hd
    rw [e1, e2] at k1
    have hsz : (⟨d.toArray⟩ : ByteArray).size = d.length := by rw [← size_list]
    refine (readPower_plus s ⟨d.toArray⟩ w (by rw [hsz]; rw [h2] at sz; simp at sz; omega) k1).mono ?_
    rintro e w' ⟨rfl, rfl⟩
    refine ⟨?_, rfl⟩
    rw [h2, powR_ok 43 d (Or.inl rfl)]
    show Ending.returned (powAns false d) = _
    by_cases g : allD d = true ∧ d.length ≤ 5
    · rw [powAns_yes _ _ g, if_pos g]; rfl
    · rw [powAns_no _ _ g, if_neg g]; rfl
  · have e1 : Lib.hasPrefix s.data.toList (⟨#[112, 43]⟩ : ByteArray).data.toList = false := h1
    rw [e1] at k1
    rcases prefix_two s.data.toList 112 45 with ⟨g1, g2⟩ | ⟨g1, g2, g3⟩
    · have e1 : Lib.hasPrefix s.data.toList (⟨#[112, 45]⟩ : ByteArray).data.toList = true := g1
      generalize hd : Lib.trimPrefix s.data.toList [112, 45] = d at g2
      have e2 : Lib.trimPrefix s.data.toList (⟨#[112, 45]⟩ : ByteArray).data.toList = d := hd
      rw [e1, e2] at k2
      have hsz : (⟨d.toArray⟩ : ByteArray).size = d.length := by rw [← size_list]
      refine (readPower_minus s ⟨d.toArray⟩ _ w (by rw [hsz]; rw [g2] at sz; simp at sz; omega) k1 k2).mono ?_
      rintro e w' ⟨rfl, rfl⟩
      refine ⟨?_, rfl⟩
      rw [g2, powR_ok 45 d (Or.inr rfl)]
      show Ending.returned (powAns true d) = _
      by_cases g : allD d = true ∧ d.length ≤ 5
      · rw [powAns_yes _ _ g, if_pos g]; rfl
      · rw [powAns_no _ _ g, if_neg g]; rfl
    · have e1 : Lib.hasPrefix s.data.toList (⟨#[112, 45]⟩ : ByteArray).data.toList = false := g1
      rw [e1] at k2
      refine (readPower_none s _ _ w k1 k2).mono ?_
      rintro e w' ⟨rfl, rfl⟩
      refine ⟨?_, rfl⟩
      rw [powR_no _ h3 g3]; rfl
end Go.Proofs.YtdoojooepkdlhaaDoor.W
