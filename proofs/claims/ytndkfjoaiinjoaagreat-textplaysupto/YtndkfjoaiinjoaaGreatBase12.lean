import Derived.Test.YtndkfjoaiinjoaaGreatBase11
import Derived.Test.YtndkfjoaiinjoaaGreatProg
import Derived.Test.YtndkfjoaiinjoaaGreatBase0
import Derived.WalkKit
import Derived.WalkLawsBesides
import Derived.Deep.QuietTactic
import Derived.BigQuiet
import Derived.Deep.RegionWith
/- StoreFills: rows that came in, rows of one's own beside a store. -/
namespace Go.Proofs.YtndkfjoaiinjoaaGreat.W
open Go.ChangeShapes Go.WideShapes Go.RowKit Go.Shelf
set_option linter.unusedVariables false
section
variable {W W' : World} {sb : Nat} {S : Nat → Prop} {A : List (Option (List Nat))} {U N : Nat}
/-- blocks of the store being as they were, it lies as it lay -/
theorem St.on (h : St W S sb A U N) (hk : ∀ k, S k → W'.heap[k]? = W.heap[k]?) : St W' S sb A U N := by
  obtain ⟨s, E, vr, vb, vf, hL, hO, f⟩ := h
  exact ⟨s, E, vr, vb, vf, hL.kept (hk _ hO.sb) (fun k e => hk k (hO.row k e)) (fun k e => hk k (hO.blk k e)) (fun k e => hk k (hO.free k e)), hO, f⟩
theorem St.mono {T : Nat → Prop} (h : St W S sb A U N) (hk : ∀ k, S k → T k) : St W T sb A U N := by
  obtain ⟨s, E, vr, vb, vf, hL, hO, f⟩ := h
  exact ⟨s, E, vr, vb, vf, hL, hO.mono hk, f⟩
theorem St.below (h : St W S sb A U N) (hb : Below W.heap.size W W') (hS : ∀ k, S k → k < W.heap.size) : St W' S sb A U N := h.on (fun k hk => hb.block k (hS k hk))
theorem owns_on {b : Nat} {e : TypeId} {size : Nat} {v : Value} {n : Nat} {xs : List Value} (ho : W.ownsRow b e size v n xs) (hk : ∀ k, v.ownBlock = some k → W'.heap[k]? = W.heap[k]?) : W'.ownsRow b e size v n xs := by
  refine ⟨ho.1, ?_⟩
  rcases ho.2 with hn | ⟨g, cap, cur, rfl, hb, hgg, rest⟩
  · exact .inl hn
  · exact .inr ⟨g, cap, cur, rfl, hb, (hk g rfl).trans hgg, rest⟩
/-- a store, and a row of one's own beside it; all behind B -/
structure Both (B : Nat) (W : World) (sb : Nat) (A : List (Option (List Nat))) (v : Value) (n : Nat) (xs : List Value) : Prop where
  ex : ∃ S, St W S sb A 20000 61 ∧ (∀ k, S k → B ≤ k ∧ k < W.heap.size) ∧ (∀ k, v.ownBlock = some k → ¬ S k)
  own : W.ownsRow B 3 1 v n xs
variable {B : Nat} {v : Value} {n : Nat} {xs : List Value}
theorem Both.below (h : Both B W sb A v n xs) (hb : Below W.heap.size W W') : Both B W' sb A v n xs := by
  obtain ⟨S, h1, h2, h3⟩ := h.ex
  have hs := hb.size
  refine ⟨⟨S, h1.below hb (fun k hk => (h2 k hk).2), fun k hk => ⟨(h2 k hk).1, by have := (h2 k hk).2; omega⟩, h3⟩, owns_on h.own (fun k hk => hb.block k ?_)⟩
  exact (h.own.lt k hk).2
theorem Both.upd {A' : List (Option (List Nat))} {S : Nat → Prop} (h2 : ∀ k, S k → B ≤ k ∧ k < W.heap.size) (h3 : ∀ k, v.ownBlock = some k → ¬ S k) (ho : W.ownsRow B 3 1 v n xs) (hB : B ≤ W.heap.size) (hU : Upd S W W') (h1 : St W' (Nx S W W') sb A' 20000 61) : Both B W' sb A' v n xs ∧ Below B W W' := by
  have hs := hU.size
  refine ⟨⟨⟨Nx S W W', h1, ?_, ?_⟩, owns_on ho (fun k hk => hU.block k (ho.lt k hk).2 (h3 k hk))⟩, hU.below hB (fun k hk => (h2 k hk).1)⟩
  · rintro k (hk | hk)
    · exact ⟨(h2 k hk).1, by have := (h2 k hk).2; omega⟩
    · exact ⟨by omega, hk.2⟩
  · rintro k hk (hk2 | hk2)
    · exact h3 k hk hk2
    · have := (ho.lt k hk).2; omega
end
section
variable {W : World} {sb : Nat} {A : List (Option (List Nat))} {B : Nat} {v : Value} {n : Nat} {xs : List Value}
end
end Go.Proofs.YtndkfjoaiinjoaaGreat.W
/- Contracts of the small functions of package word and of its reference: what each returns, at every argument of its kind, with the world as it was. -/
namespace Go.Proofs.YtndkfjoaiinjoaaGreat.W
open Go.ChangeShapes Go.WideShapes Go.RowKit

theorem ret_bool {a b : Bool} (h : a = b) : Ending.returned (.bool a) = .returned (.bool b) := by rw [h]
theorem ret_int {k : IntKind} {a b : Int} (h : a = b) : Ending.returned (.int k a) = .returned (.int k b) := by rw [h]
theorem ret_pair {v v' u u' : Value} (h : v = v') (g : u = u') : Ending.returned (.tuple #[v, u]) = .returned (.tuple #[v', u']) := by rw [h, g]
theorem ret_ib {k : IntKind} {a a' : Int} {b b' : Bool} (h : a = a') (g : b = b') : Ending.returned (.tuple #[.int k a, .bool b]) = .returned (.tuple #[.int k a', .bool b']) := by rw [h, g]
theorem ret_sb {a a' : ByteArray} {b b' : Bool} (h : a = a') (g : b = b') : Ending.returned (.tuple #[.string a, .bool b]) = .returned (.tuple #[.string a', .bool b']) := by rw [h, g]
theorem int_eq {k : IntKind} {a b : Int} (h : a = b) : Value.int k a = Value.int k b := by rw [h]

set_option maxHeartbeats 400000 in
theorem isNaN_c (n : Int) (h0 : 0 ≤ n) (h1 : n < 18446744073709551616) (w : World) :
    Calls Tryz.prog 75 #[.int .u64 n] w fun e w' => e = .returned (.bool (nanB n)) ∧ w' = w := by
  go_enter Tryz.func75, Tryz.ntmps75
  go_wp2
  go_ret
  exact ⟨ret_bool (by rw [nan_eq n h0 h1]; rfl), rfl⟩
set_option maxHeartbeats 400000 in
theorem isTagged_c (n : Int) (h0 : 0 ≤ n) (h1 : n < 18446744073709551616) (w : World) :
    Calls Tryz.prog 84 #[.int .u64 n] w fun e w' => e = .returned (.bool (decide (18444492273895866368 ≤ n))) ∧ w' = w := by
  go_enter Tryz.func84, Tryz.ntmps84
  go_wp2
  go_ret
  exact ⟨ret_bool (tagged_eq n h0 h1), rfl⟩
set_option maxHeartbeats 400000 in
theorem tagOf_c (n : Int) (h0 : 0 ≤ n) (h1 : n < 18446744073709551616) (w : World) :
    Calls Tryz.prog 85 #[.int .u64 n] w fun e w' => e = .returned (.int .u64 (n / 281474976710656 % 8)) ∧ w' = w := by
  go_enter Tryz.func85, Tryz.ntmps85
  go_wp2
  go_ret
  exact ⟨ret_int (tag_eq n h0 h1), rfl⟩
set_option maxHeartbeats 400000 in
theorem loadOf_c (n : Int) (h0 : 0 ≤ n) (h1 : n < 18446744073709551616) (w : World) :
    Calls Tryz.prog 87 #[.int .u64 n] w fun e w' => e = .returned (.int .u64 (n % 281474976710656)) ∧ w' = w := by
  go_enter Tryz.func87, Tryz.ntmps87
  go_wp2
  go_ret
  exact ⟨ret_int (load_eq n h0 h1), rfl⟩
set_option maxHeartbeats 400000 in
theorem join_c (t l : Int) (h0 : 0 ≤ t) (h1 : t < 8) (h2 : 0 ≤ l) (h3 : l < 281474976710656) (w : World) :
    Calls Tryz.prog 73 #[.int .u64 t, .int .u64 l] w fun e w' => e = .returned (.int .u64 (18444492273895866368 + t * 281474976710656 + l)) ∧ w' = w := by
  have hq := join_eq t l h0 h1 h2 h3
  have Hq : Hid (bits .or .u64 (bits .or .u64 18444492273895866368 (IntKind.u64.wrap (t * 281474976710656))) l = 18444492273895866368 + t * 281474976710656 + l) := hq
  clear hq h0 h1 h2 h3
  go_enter Tryz.func73, Tryz.ntmps73
  go_wp2
  go_ret
  exact ⟨ret_int Hq.out, rfl⟩
set_option maxHeartbeats 400000 in
theorem split_c (n : Int) (h0 : 0 ≤ n) (h1 : n < 18446744073709551616) (w : World) :
    Calls Tryz.prog 90 #[.int .u64 n] w fun e w' => e = .returned (.tuple #[.int .u64 (n / 1099511627776), .int .u64 (n % 1099511627776)]) ∧ w' = w := by
  go_enter Tryz.func90, Tryz.ntmps90
  go_wp2
  go_ret2
  exact ⟨ret_pair rfl (int_eq (room_eq n h0 h1)), rfl⟩
set_option maxHeartbeats 400000 in
theorem plain_c (n : Int) (w : World) :
    Calls Tryz.prog 86 #[.int .u64 n] w fun e w' => e = .returned (.int .i64 (plainCls n)) ∧ w' = w := by
  have P0 : Hid (n = 0 → plainCls n = 3) := by intro h; simp [plainCls, h]
  have P1 : Hid (n = 1 ∨ n = 2 → plainCls n = 4) := by intro h; rcases h with h | h <;> simp [plainCls, h]
  have P3 : Hid (n ≠ 0 → n ≠ 1 → n ≠ 2 → plainCls n = 7) := by intro a b c; simp [plainCls, a, b, c]
  go_enter Tryz.func86, Tryz.ntmps86
  go_wp2
  all_goals go_ret
  · exact ⟨ret_int (P0.out (by simp_all)).symm, rfl⟩
  · exact ⟨ret_int (P1.out (by simp_all)).symm, rfl⟩
  · exact ⟨ret_int (P1.out (by simp_all)).symm, rfl⟩
  · exact ⟨ret_int (P3.out (by simp_all) (by simp_all) (by simp_all)).symm, rfl⟩
end Go.Proofs.YtndkfjoaiinjoaaGreat.W
/- Contracts of the class functions of package word and of its reference: each returns the class 'cls' of every pattern. -/
namespace Go.Proofs.YtndkfjoaiinjoaaGreat.W
open Go.ChangeShapes Go.WideShapes Go.RowKit

theorem cls_dbl (n : Int) (h : nanB n = false) : cls n = 1 := by simp [cls, h]
theorem cls_canon : cls 9221120237041090560 = 1 := by decide
theorem cls_low (n : Int) (h : nanB n = true) (hc : ¬ n = 9221120237041090560) (hl : n < 18444492273895866368) : cls n = 7 := by simp [cls, h, hc, hl]
theorem nan_hi (n : Int) (h1 : n < 18446744073709551616) (h : 18444492273895866368 ≤ n) : nanB n = true := by
  unfold nanB; rw [decide_eq_true_eq]; omega
theorem cls_t0 (n : Int) (h1 : n < 18446744073709551616) (h : 18444492273895866368 ≤ n) (ht : n / 281474976710656 % 8 = 0) : cls n = plainCls (n % 281474976710656) := by
  have hn := nan_hi n h1 h
  unfold cls plainCls
  rw [hn]
  simp only [Bool.true_eq_false, false_or]
  repeat' split
  all_goals first | rfl | (exfalso; omega)
theorem cls_t1 (n : Int) (h1 : n < 18446744073709551616) (h : 18444492273895866368 ≤ n) (ht : n / 281474976710656 % 8 = 1) : cls n = 2 := by
  have hn := nan_hi n h1 h
  unfold cls
  rw [hn]
  simp only [Bool.true_eq_false, false_or]
  repeat' split
  all_goals first | rfl | (exfalso; omega)
theorem cls_t2 (n : Int) (h1 : n < 18446744073709551616) (h : 18444492273895866368 ≤ n) (ht : n / 281474976710656 % 8 = 2) : cls n = textCls (n % 281474976710656) := by
  have hn := nan_hi n h1 h
  unfold cls textCls
  rw [hn]
  simp only [Bool.true_eq_false, false_or]
  rw [if_neg (by omega), if_neg (by omega), if_neg (by omega), if_neg (by omega), if_neg (by omega), if_neg (by omega), if_pos (by omega)]
theorem cls_t3 (n : Int) (h1 : n < 18446744073709551616) (h : 18444492273895866368 ≤ n) (ht : n / 281474976710656 % 8 = 3) : cls n = 6 := by
  have hn := nan_hi n h1 h
  unfold cls
  rw [hn]
  simp only [Bool.true_eq_false, false_or]
  repeat' split
  all_goals first | rfl | (exfalso; omega)
theorem cls_t4 (n : Int) (h1 : n < 18446744073709551616) (h : 18444492273895866368 ≤ n) (ht : 4 ≤ n / 281474976710656 % 8) : cls n = 7 := by
  have hn := nan_hi n h1 h
  unfold cls
  rw [hn]
  simp only [Bool.true_eq_false, false_or]
  repeat' split
  all_goals first | rfl | (exfalso; omega)

theorem txtOk_big (l : Int) (h : 5 < l / 1099511627776) : textCls l = 7 := by
  unfold textCls txtOk
  rw [if_neg]
  simp only [decide_eq_true_eq]
  omega
theorem txtOk_room (l k : Int) (hk : k ≤ 5) (hl : l / 1099511627776 = k) :
    textCls l = if (l % 1099511627776 / 2 ^ (8 * k).toNat != 0) = true then 7 else 5 := by
  unfold textCls txtOk
  rw [hl]
  have hm : 0 ≤ l % 1099511627776 := by omega
  generalize l % 1099511627776 = r at *
  have hp : (0 : Int) < 2 ^ (8 * k).toNat := Int.pow_pos (by decide)
  by_cases c : r < 2 ^ (8 * k).toNat
  · rw [Int.ediv_eq_zero_of_lt hm c]
    simp [hk, c]
  · have : r / 2 ^ (8 * k).toNat ≠ 0 := by
      intro e
      have := Int.lt_ediv_add_one_mul_self r hp
      rw [e] at this
      omega
    simp [c, this]

set_option maxHeartbeats 400000 in
theorem classOfText_c (l : Int) (h0 : 0 ≤ l) (h1 : l < 281474976710656) (w : World) :
    Calls Tryz.prog 88 #[.int .u64 l] w fun e w' => e = .returned (.int .i64 (textCls l)) ∧ w' = w := by
  by_cases c : 5 < l / 1099511627776
  · have H := hid (txtOk_big l c)
    go_enter Tryz.func88, Tryz.ntmps88
    go_wp2_with (go_at_call 90; refine (split_c _ (by omega) (by omega) _).mono ?_; rintro e w' ⟨rfl, rfl⟩)
    go_ret
    exact ⟨ret_int H.out.symm, rfl⟩
  · obtain ⟨k, hk⟩ : ∃ k, l / 1099511627776 = k := ⟨_, rfl⟩
    have k0 : 0 ≤ k := by omega
    have k5 : k ≤ 5 := by omega
    have H := hid (txtOk_room l k k5 hk)
    have hm : 0 ≤ l % 1099511627776 := by omega
    go_enter Tryz.func88, Tryz.ntmps88
    go_wp2_with (go_at_call 90; refine (split_c _ (by omega) (by omega) _).mono ?_; rintro e w' ⟨rfl, rfl⟩)
    all_goals go_ret
    · rename_i hx
      exact ⟨ret_int (by rw [H.out, if_pos (by rcases hx with h | h; omega; exact h)]), rfl⟩
    · rename_i hx
      exact ⟨ret_int (by rw [H.out, if_neg (by rw [hx.2]; decide)]), rfl⟩

set_option maxHeartbeats 400000 in
theorem class_c (n : Int) (h0 : 0 ≤ n) (h1 : n < 18446744073709551616) (w : World) :
    Calls Tryz.prog 52 #[.int .u64 n] w fun e w' => e = .returned (.int .i64 (cls n)) ∧ w' = w := by
  by_cases c0 : nanB n = false
  · have H := hid (cls_dbl n c0)
    go_enter Tryz.func52, Tryz.ntmps52
    go_wp2_with (go_at_call 75; refine (isNaN_c _ (by omega) (by omega) _).mono ?_; rintro e w' ⟨rfl, rfl⟩)
    go_ret
    exact ⟨ret_int H.out.symm, rfl⟩
  have c0' : nanB n = true := by simpa using c0
  clear c0
  by_cases c1 : n = 9221120237041090560
  · have H := hid cls_canon
    subst c1
    go_enter Tryz.func52, Tryz.ntmps52
    go_wp2_with (go_at_call 75; refine (isNaN_c _ (by omega) (by omega) _).mono ?_; rintro e w' ⟨rfl, rfl⟩)
    go_ret
    exact ⟨ret_int H.out.symm, rfl⟩
  have d1 : (n == 9221120237041090560) = false := by simpa using c1
  by_cases c2 : n < 18444492273895866368
  · have H := hid (cls_low n c0' c1 c2)
    have d2 : decide (18444492273895866368 ≤ n) = false := by simp; omega
    clear c1
    go_enter Tryz.func52, Tryz.ntmps52
    go_wp2_with (first | (go_at_call 75; refine (isNaN_c _ (by omega) (by omega) _).mono ?_; rintro e w' ⟨rfl, rfl⟩) | (go_at_call 84; refine (isTagged_c _ (by omega) (by omega) _).mono ?_; rintro e w' ⟨rfl, rfl⟩))
    go_ret
    exact ⟨ret_int H.out.symm, rfl⟩
  have c2' : 18444492273895866368 ≤ n := by omega
  have d2 : decide (18444492273895866368 ≤ n) = true := by simp; omega
  clear c1 c2
  obtain ⟨t, ht⟩ : ∃ t, n / 281474976710656 % 8 = t := ⟨_, rfl⟩
  have t0 : 0 ≤ t := by omega
  have t8 : t < 8 := by omega
  have hload : 0 ≤ n % 281474976710656 := by omega
  have hload' : n % 281474976710656 < 281474976710656 := by omega
  by_cases e0 : t = 0
  · subst e0
    have H := hid (cls_t0 n h1 c2' ht)
    go_enter Tryz.func52, Tryz.ntmps52
    go_wp2_with (first | (go_at_call 75; refine (isNaN_c _ (by omega) (by omega) _).mono ?_; rintro e w' ⟨rfl, rfl⟩) | (go_at_call 84; refine (isTagged_c _ (by omega) (by omega) _).mono ?_; rintro e w' ⟨rfl, rfl⟩) | (go_at_call 85; refine (tagOf_c _ (by omega) (by omega) _).mono ?_; rintro e w' ⟨rfl, rfl⟩) | (go_at_call 87; refine (loadOf_c _ (by omega) (by omega) _).mono ?_; rintro e w' ⟨rfl, rfl⟩) | (go_at_call 86; refine (plain_c _ _).mono ?_; rintro e w' ⟨rfl, rfl⟩))
    go_ret
    exact ⟨ret_int H.out.symm, rfl⟩
  by_cases e1 : t = 1
  · subst e1
    have H := hid (cls_t1 n h1 c2' ht)
    go_enter Tryz.func52, Tryz.ntmps52
    go_wp2_with (first | (go_at_call 75; refine (isNaN_c _ (by omega) (by omega) _).mono ?_; rintro e w' ⟨rfl, rfl⟩) | (go_at_call 84; refine (isTagged_c _ (by omega) (by omega) _).mono ?_; rintro e w' ⟨rfl, rfl⟩) | (go_at_call 85; refine (tagOf_c _ (by omega) (by omega) _).mono ?_; rintro e w' ⟨rfl, rfl⟩))
    go_ret
    exact ⟨ret_int H.out.symm, rfl⟩
  by_cases e2 : t = 2
  · subst e2
    have H := hid (cls_t2 n h1 c2' ht)
    go_enter Tryz.func52, Tryz.ntmps52
    go_wp2_with (first | (go_at_call 75; refine (isNaN_c _ (by omega) (by omega) _).mono ?_; rintro e w' ⟨rfl, rfl⟩) | (go_at_call 84; refine (isTagged_c _ (by omega) (by omega) _).mono ?_; rintro e w' ⟨rfl, rfl⟩) | (go_at_call 85; refine (tagOf_c _ (by omega) (by omega) _).mono ?_; rintro e w' ⟨rfl, rfl⟩) | (go_at_call 87; refine (loadOf_c _ (by omega) (by omega) _).mono ?_; rintro e w' ⟨rfl, rfl⟩) | (go_at_call 88; refine (classOfText_c _ (by omega) (by omega) _).mono ?_; rintro e w' ⟨rfl, rfl⟩))
    go_ret
    exact ⟨ret_int H.out.symm, rfl⟩
  by_cases e3 : t = 3
  · subst e3
    have H := hid (cls_t3 n h1 c2' ht)
    go_enter Tryz.func52, Tryz.ntmps52
    go_wp2_with (first | (go_at_call 75; refine (isNaN_c _ (by omega) (by omega) _).mono ?_; rintro e w' ⟨rfl, rfl⟩) | (go_at_call 84; refine (isTagged_c _ (by omega) (by omega) _).mono ?_; rintro e w' ⟨rfl, rfl⟩) | (go_at_call 85; refine (tagOf_c _ (by omega) (by omega) _).mono ?_; rintro e w' ⟨rfl, rfl⟩))
    go_ret
    exact ⟨ret_int H.out.symm, rfl⟩
  · have H := hid (cls_t4 n h1 c2' (by omega))
    have f0 : (t == 0) = false := by simpa using e0
    have f1 : (t == 1) = false := by simpa using e1
    have f2 : (t == 2) = false := by simpa using e2
    have f3 : (t == 3) = false := by simpa using e3
    clear e0 e1 e2 e3
    go_enter Tryz.func52, Tryz.ntmps52
    go_wp2_with (first | (go_at_call 75; refine (isNaN_c _ (by omega) (by omega) _).mono ?_; rintro e w' ⟨rfl, rfl⟩) | (go_at_call 84; refine (isTagged_c _ (by omega) (by omega) _).mono ?_; rintro e w' ⟨rfl, rfl⟩) | (go_at_call 85; refine (tagOf_c _ (by omega) (by omega) _).mono ?_; rintro e w' ⟨rfl, rfl⟩))
    go_ret
    exact ⟨ret_int H.out.symm, rfl⟩
end Go.Proofs.YtndkfjoaiinjoaaGreat.W
/- Contracts of the faces of package word (all but strings): what each returns, at every argument of its kind, with the world as it was. -/
namespace Go.Proofs.YtndkfjoaiinjoaaGreat.W
open Go.ChangeShapes Go.WideShapes Go.RowKit

set_option maxHeartbeats 400000 in
theorem fromHandle_c (h : Int) (h0 : 0 ≤ h) (w : World) :
    Calls Tryz.prog 70 #[.int .u64 h] w fun e w' => e = .returned (.tuple #[.int .u64 (hdlW h), .bool (decide (h < 281474976710656))]) ∧ w' = w := by
  by_cases c : h < 281474976710656
  · have H := hid (show hdlW h = 18445336698825998336 + h by simp [hdlW, c])
    go_enter Tryz.func70, Tryz.ntmps70
    go_wp2_with (go_at_call 73; refine (join_c _ _ (by omega) (by omega) (by omega) (by omega) _).mono ?_; rintro e w' ⟨rfl, rfl⟩)
    go_ret2
    exact ⟨ret_ib H.out.symm (by simp [c]), rfl⟩
  · have H := hid (show hdlW h = 0 by simp [hdlW, c])
    go_enter Tryz.func70, Tryz.ntmps70
    go_wp2
    go_ret2
    exact ⟨ret_ib H.out.symm (by simp; omega), rfl⟩
set_option maxHeartbeats 400000 in
theorem toHandle_c (n : Int) (h0 : 0 ≤ n) (h1 : n < 18446744073709551616) (w : World) :
    Calls Tryz.prog 93 #[.int .u64 n] w fun e w' => e = .returned (.tuple #[.int .u64 (toHdl n), .bool (cls n == 6)]) ∧ w' = w := by
  by_cases c : cls n = 6
  · have H := hid (show toHdl n = n % 281474976710656 by simp [toHdl, c])
    go_enter Tryz.func93, Tryz.ntmps93
    go_wp2_with (first | (go_at_call 52; refine (class_c _ (by omega) (by omega) _).mono ?_; rintro e w' ⟨rfl, rfl⟩) | (go_at_call 87; refine (loadOf_c _ (by omega) (by omega) _).mono ?_; rintro e w' ⟨rfl, rfl⟩))
    go_ret2
    exact ⟨ret_ib H.out.symm (by simp [c]), rfl⟩
  · have H := hid (show toHdl n = 0 by simp [toHdl, c])
    have d : (cls n == 6) = false := by simpa using c
    have d' : (cls n != 6) = true := by simpa using c
    go_enter Tryz.func93, Tryz.ntmps93
    go_wp2_with (first | (go_at_call 52; refine (class_c _ (by omega) (by omega) _).mono ?_; rintro e w' ⟨rfl, rfl⟩) | (go_at_call 87; refine (loadOf_c _ (by omega) (by omega) _).mono ?_; rintro e w' ⟨rfl, rfl⟩))
    go_ret2
    exact ⟨ret_ib H.out.symm d.symm, rfl⟩
theorem sx_eq (n : Int) : wrap64 (IntKind.u64.wrap (n * 65536)) / 65536 = if n % 281474976710656 < 140737488355328 then n % 281474976710656 else n % 281474976710656 - 281474976710656 := by
  rw [IntKind.wrap_u64]
  unfold wrap64
  split <;> omega
set_option maxHeartbeats 400000 in
theorem toInt_c (n : Int) (h0 : 0 ≤ n) (h1 : n < 18446744073709551616) (w : World) :
    Calls Tryz.prog 54 #[.int .u64 n] w fun e w' => e = .returned (.tuple #[.int .i64 (toInt n), .bool (cls n == 2)]) ∧ w' = w := by
  by_cases c : cls n = 2
  · have H := hid (show toInt n = (if n % 281474976710656 < 140737488355328 then n % 281474976710656 else n % 281474976710656 - 281474976710656) by simp [toInt, c])
    go_enter Tryz.func54, Tryz.ntmps54
    go_wp2_with (first | (go_at_call 52; refine (class_c _ (by omega) (by omega) _).mono ?_; rintro e w' ⟨rfl, rfl⟩) | (go_at_call 87; refine (loadOf_c _ (by omega) (by omega) _).mono ?_; rintro e w' ⟨rfl, rfl⟩))
    go_ret2
    refine ⟨ret_ib ?_ (by simp [c]), rfl⟩
    rw [H.out]
    exact sx_eq n
  · have H := hid (show toInt n = 0 by simp [toInt, c])
    have d : (cls n == 2) = false := by simpa using c
    have d' : (cls n != 2) = true := by simpa using c
    go_enter Tryz.func54, Tryz.ntmps54
    go_wp2_with (first | (go_at_call 52; refine (class_c _ (by omega) (by omega) _).mono ?_; rintro e w' ⟨rfl, rfl⟩) | (go_at_call 87; refine (loadOf_c _ (by omega) (by omega) _).mono ?_; rintro e w' ⟨rfl, rfl⟩))
    go_ret2
    exact ⟨ret_ib H.out.symm d.symm, rfl⟩
set_option maxHeartbeats 400000 in
theorem fromInt_c (i : Int) (h0 : -9223372036854775808 ≤ i) (h1 : i ≤ 9223372036854775807) (w : World) :
    Calls Tryz.prog 74 #[.int .i64 i] w fun e w' => e = .returned (.tuple #[.int .u64 (intW i), .bool (smallB i)]) ∧ w' = w := by
  by_cases c : -140737488355328 ≤ i ∧ i ≤ 140737488355327
  · have H := hid (show smallB i = true by simp [smallB, c])
    have H' := hid (show intW i = 18444773748872577024 + i % 281474976710656 by simp [intW, smallB, c])
    obtain ⟨c1, c2⟩ := c
    go_enter Tryz.func74, Tryz.ntmps74
    go_wp2_with (first | (go_at_call 73; refine (join_c _ _ (by omega) (by omega) (by omega) (by omega) _).mono ?_; rintro e w' ⟨rfl, rfl⟩) | (go_at_call 87; refine (loadOf_c _ (by rw [IntKind.wrap_u64]; omega) (by rw [IntKind.wrap_u64]; omega) _).mono ?_; rintro e w' ⟨rfl, rfl⟩))
    go_ret2
    exact ⟨ret_ib (by rw [H'.out, IntKind.wrap_u64]; omega) H.out.symm, rfl⟩
  · have H := hid (show smallB i = false by simp [smallB]; omega)
    have H' := hid (show intW i = 0 by have := H.out; simp [intW, this])
    by_cases c1 : i < -140737488355328
    · clear c
      go_enter Tryz.func74, Tryz.ntmps74
      go_wp2
      go_ret2
      exact ⟨ret_ib H'.out.symm H.out.symm, rfl⟩
    · have c2 : 140737488355327 < i := by omega
      clear c
      go_enter Tryz.func74, Tryz.ntmps74
      go_wp2
      go_ret2
      exact ⟨ret_ib H'.out.symm H.out.symm, rfl⟩
end Go.Proofs.YtndkfjoaiinjoaaGreat.W
/- Package heap: how a heap lies; find, bytes, shapes, units. -/
namespace Go.Proofs.YtndkfjoaiinjoaaGreat.W
open Go.ChangeShapes Go.WideShapes Go.RowKit Go.Shelf
set_option linter.unusedVariables false
def flatC (H : List (Option Hc)) : List Value := H.flatMap (fun c => (clO c).cells)
theorem Cl.cells_len (c : Cl) : c.cells.length = 5 := rfl
theorem flatC_len (H : List (Option Hc)) : (flatC H).length = H.length * 5 := by
  induction H with
  | nil => rfl
  | cons b r ih => simp only [flatC, List.flatMap_cons, List.length_append, Cl.cells_len, List.length_cons] at ih ⊢; omega
theorem flatC_get (H : List (Option Hc)) (i j : Nat) (c : Option Hc) (h : H[i]? = some c) (hj : j < 5) : (flatC H)[i * 5 + j]? = (clO c).cells[j]? := by
  induction H generalizing i with
  | nil => simp at h
  | cons b r ih =>
    cases i with
    | zero =>
      simp at h; subst h
      unfold flatC
      rw [List.flatMap_cons, List.getElem?_append_left (by rw [Cl.cells_len]; omega)]
      simp
    | succ i =>
      simp at h
      have := ih i h
      unfold flatC at *
      rw [List.flatMap_cons, List.getElem?_append_right (by rw [Cl.cells_len]; omega), Cl.cells_len]
      have e : (i + 1) * 5 + j - 5 = i * 5 + j := by omega
      rw [e]; exact this
/-- a heap lies in W: its block hb, its store at sb in the blocks T, its cells vc; u units, h of them held -/
structure HLay (W : World) (hb sb : Nat) (vc : Value) (T : Nat → Prop) (H : List (Option Hc)) (u h : Nat) : Prop where
  obj : W.heap[hb]? = some (.cells [.pointer (some ⟨sb, 0, none⟩), vc, .int .i64 u, .int .i64 h].toArray 70 (0, 0))
  own : W.ownsRow 0 130 5 vc H.length (flatC H)
  st : St W T sb (hA H) 8388608 1048577
  tlt : ∀ k, T k → k < W.heap.size
  thb : ¬ T hb
  tvc : ∀ k, vc.ownBlock = some k → ¬ T k
  ok : ∀ (i : Nat) (c : Hc), H[i]? = some (some c) → c.ok
  len : H.length ≤ 1048576
  u1 : u ≤ 1048576
  h1 : h ≤ 1048576
section
variable {W W' : World} {hb sb : Nat} {vc : Value} {T : Nat → Prop} {H : List (Option Hc)} {u h : Nat}
theorem HLay.hlt (g : HLay W hb sb vc T H u h) : hb < W.heap.size := (Array.getElem?_eq_some_iff.1 g.obj).1
theorem HLay.clt (g : HLay W hb sb vc T H u h) : ∀ k, vc.ownBlock = some k → k < W.heap.size := fun k e => (g.own.lt k e).2
theorem HLay.kept (g : HLay W hb sb vc T H u h) (hs : W.heap.size ≤ W'.heap.size) (h0 : W'.heap[hb]? = W.heap[hb]?) (h1 : ∀ k, vc.ownBlock = some k → W'.heap[k]? = W.heap[k]?) (h2 : ∀ k, T k → W'.heap[k]? = W.heap[k]?) : HLay W' hb sb vc T H u h :=
  ⟨h0.trans g.obj, owns_on g.own h1, g.st.on h2, fun k e => Nat.lt_of_lt_of_le (g.tlt k e) hs, g.thb, g.tvc, g.ok, g.len, g.u1, g.h1⟩
theorem HLay.below (g : HLay W hb sb vc T H u h) (hb' : Below W.heap.size W W') : HLay W' hb sb vc T H u h :=
  g.kept hb'.size (hb'.block _ g.hlt) (fun k e => hb'.block k (g.clt k e)) (fun k e => hb'.block k (g.tlt k e))
theorem HLay.same (g : HLay W hb sb vc T H u h) (e : W'.heap = W.heap) : HLay W' hb sb vc T H u h :=
  g.kept (by rw [e]; exact Nat.le_refl _) (by rw [e]) (fun k _ => by rw [e]) (fun k _ => by rw [e])
/-- what is changed beside it -/
theorem HLay.upd {S : Nat → Prop} (g : HLay W hb sb vc T H u h) (hu : Upd S W W') (h0 : ¬ S hb) (h1 : ∀ k, vc.ownBlock = some k → ¬ S k) (h2 : ∀ k, T k → ¬ S k) : HLay W' hb sb vc T H u h :=
  g.kept hu.size (hu.block _ g.hlt h0) (fun k e => hu.block k (g.clt k e) (h1 k e)) (fun k e => hu.block k (g.tlt k e) (h2 k e))
theorem HLay.cell (g : HLay W hb sb vc T H u h) (j : Nat) : W.cell? ⟨hb, j, none⟩ = [Value.pointer (some ⟨sb, 0, none⟩), vc, .int .i64 u, .int .i64 h][j]? := by
  rw [cell_of_row W hb j _ _ (0, 0) g.obj]; simp
theorem HLay.thaw (g : HLay W hb sb vc T H u h) (j : Nat) : W.frozen? ⟨hb, j, none⟩ = false := by
  simp [World.frozen?, g.obj]
theorem HLay.sl (g : HLay W hb sb vc T H u h) : ∃ o cap, vc = .slice o H.length cap := by
  rcases g.own.2 with ⟨rfl, e⟩ | ⟨g', cap, cur, rfl, _⟩
  · exact ⟨_, _, by rw [e]⟩
  · exact ⟨_, _, rfl⟩
/-- where a cell's row lies -/
theorem HLay.at (g : HLay W hb sb vc T H u h) {i : Nat} (hi : i < H.length) : ∃ b cap, vc = .slice (some ⟨b, 0, none⟩) H.length cap ∧ (∀ j c, H[i]? = some c → j < 5 → W.cell? ⟨b, i * 5 + j, none⟩ = (clO c).cells[j]?) ∧ ∀ j, W.frozen? ⟨b, j, none⟩ = false := by
  obtain ⟨b, cap, rfl, hc⟩ := own_slice g.own (by omega)
  refine ⟨b, cap, rfl, fun j c hc hj => ?_, fun j => g.own.frozenAt j⟩
  rw [g.own.cellAt _ (by omega), flatC_get _ _ _ _ hc hj]
end
end Go.Proofs.YtndkfjoaiinjoaaGreat.W
