/- The walk of the statement on one number written otherwise. -/
import Derived.Test.YtmdpnoebpjoiaaaDoorST4
namespace Go.Proofs.YtmdpnoebpjoiaaaDoor.W
open Go.ChangeShapes Go.WideShapes Go.RowKit
def zer (k : Nat) : ByteArray := ⟨(List.replicate k 48).toArray⟩
theorem zer_step (k : Nat) (hk : k ≤ 100) (w : World) : (Op.stringOp .add (zer k) ⟨#[48]⟩).run Tryd.prog w = .ok (.string (zer (k + 1))) w := by
  have := run_string_add_lists (P := Tryd.prog) w (List.replicate k 48) [48] (by rw [List.length_replicate]; omega) (by decide)
  rw [← List.replicate_succ'] at this
  exact this
theorem chr112 (c : UInt8) : ((c.toNat : Int) == 112) = decide (c = 112) := by
  rw [Bool.eq_iff_iff, beq_iff_eq, decide_eq_true_eq]
  constructor
  · intro e
    apply UInt8.toNat_inj.1
    have : c.toNat = 112 := by omega
    rw [this]; rfl
  · intro e; subst e; rfl
set_option maxRecDepth 1000000 in
set_option maxHeartbeats 2000000 in
theorem textShifts_plus (u : Int) (j : Nat) (T : ByteArray) (hc : ∀ h : 0 < T.size, ((T[0].toNat : Int) == 45) = false) (pos : Nat) (R2 S2 S3 B B' D1 D2 D3 D4 R : ByteArray) (w wk : World) (hS : St w wk) (hj : j ≤ 20) (n6 : 6 ≤ T.size) (n100 : T.size ≤ 100) (hp : pos < T.size)
    (hpc : ∀ k (h : k < T.size), ((T[k].toNat : Int) == 112) = decide (k = pos)) (hx2 : T.extract 0 2 = ⟨#[48, 120]⟩) (hr2 : T.extract 2 T.size = R2) (hB : T.extract 0 pos = B) (hR : T.extract pos T.size = R)
    (hinf : (bits .and .u64 u 9223372036854775807 == 9218868437227405312) = false)
    (cn : ∀ w, Calls Tryd.prog 22 #[.int .u64 u] w fun e w' => e = .returned (.bool false) ∧ w' = w)
    (cf : ∀ w, Tabs w → Calls Tryd.prog 11 #[.int .u64 u] w fun e w' => e = .returned (.string T) ∧ Below w.heap.size w w')
    (c1 : ∀ w, (Op.stringOp .add ⟨#[]⟩ ⟨#[48, 120]⟩).run Tryd.prog w = .ok (.string ⟨#[48, 120]⟩) w) (c2 : ∀ w, (Op.stringOp .add ⟨#[48, 120]⟩ (zer j)).run Tryd.prog w = .ok (.string S2) w) (c3 : ∀ w, (Op.stringOp .add S2 R2).run Tryd.prog w = .ok (.string S3) w)
    (cp1 : ∀ w, Tabs w → Calls Tryd.prog 17 #[.string S3] w fun e w' => e = .returned (.tuple #[.int .u64 u, .int .i64 0]) ∧ Below w.heap.size w w')
    (hb3 : ((B.size : Int) == 3) = false ∧ B' = B ∨ ((B.size : Int) == 3) = true ∧ ∀ w, (Op.stringOp .add B ⟨#[46]⟩).run Tryd.prog w = .ok (.string B') w)
    (c5 : ∀ w, (Op.stringOp .add ⟨#[]⟩ B').run Tryd.prog w = .ok (.string D1) w) (c6 : ∀ w, (Op.stringOp .add D1 ⟨#[48]⟩).run Tryd.prog w = .ok (.string D2) w) (c7 : ∀ w, (Op.stringOp .add D2 (zer j)).run Tryd.prog w = .ok (.string D3) w) (c8 : ∀ w, (Op.stringOp .add D3 R).run Tryd.prog w = .ok (.string D4) w)
    (cp2 : ∀ w, Tabs w → Calls Tryd.prog 17 #[.string D4] w fun e w' => e = .returned (.tuple #[.int .u64 u, .int .i64 0]) ∧ Below w.heap.size w w') :
    Calls Tryd.prog 6 #[.int .u64 u, .int .i64 j] wk fun e w' => e = .returned (.bool true) ∧ Below w.heap.size w w' := by
  replace hc := hc (by omega)
  have HP := hid hpc
  have t0 : 0 < T.size := by omega
  clear hpc
  go_enter Tryd.func6, Tryd.ntmps6
  go_wp2_with (first | (go_at_call 22; (with_reducible refine (cn _).mono ?_); rintro e wn ⟨rfl, hz⟩; (have hz' := hz.symm); subst hz'; clear hz) | (go_at_call 11; (with_reducible refine (cf _ hS.tabs).mono ?_); rintro e wn ⟨rfl, hb⟩; (replace hS := hS.go hb); clear hb))
  go_loop [7, 8] (fun z i => ∃ k : Nat, k ≤ j ∧ i = .int .i64 k ∧ z = .string (zer k)) (fun _ i => j - (intOf i).toNat)
  case atStart => exact ⟨0, Nat.zero_le _, rfl, rfl⟩
  case round =>
    obtain ⟨k, hk, rfl, rfl⟩ := hrel
    by_cases hlt : k < j
    · have cz := zer_step k (by omega)
      go_wp2_with fail
      go_round
      case rel => exact ⟨k + 1, hlt, by go_num, rfl⟩
      case measure => simp [intOf]; omega
    · have hkj : k = j := by omega
      subst hkj
      go_wp2_with (first | (go_at_call 17; (with_reducible refine (cp1 _ hS.tabs).mono ?_); rintro e wn ⟨rfl, hb⟩; (replace hS := hS.go hb); clear hb))
      go_loop [11, 12] (fun a i => ∃ n : Nat, n ≤ T.size ∧ i = .int .i64 n ∧ ((a = .int .i64 (-1) ∧ n ≤ pos) ∨ (a = .int .i64 pos ∧ pos < n))) (fun _ i => T.size - (intOf i).toNat)
      case atStart => exact ⟨0, Nat.zero_le _, rfl, Or.inl ⟨rfl, Nat.zero_le _⟩⟩
      case round =>
        obtain ⟨n, hn, rfl, ha⟩ := hrel
        by_cases hnt : n < T.size
        · have hq := HP.out n hnt
          by_cases hnp : n = pos
          · rw [decide_eq_true hnp] at hq
            have hA := hid hnp
            clear hnp
            go_wp2_with fail
            go_round
            case rel => exact ⟨n + 1, hnt, by go_num, Or.inr ⟨by rw [hA.out], by have := hA.out; omega⟩⟩
            case measure => simp [intOf]; omega
          · rw [decide_eq_false hnp] at hq
            have hA := hid hnp
            have hA2 := hid ha
            clear hnp ha
            go_wp2_with fail
            go_round
            case rel =>
              refine ⟨n + 1, hnt, by go_num, ?_⟩
              have := hA.out
              rcases hA2.out with ⟨e, h⟩ | ⟨e, h⟩
              · exact Or.inl ⟨e, by omega⟩
              · exact Or.inr ⟨e, by omega⟩
            case measure => simp [intOf]; omega
        · rcases ha with ⟨rfl, h⟩ | ⟨rfl, h⟩
          · omega
          rcases hb3 with ⟨hb3, rfl⟩ | ⟨hb3, c4⟩
          · go_wp2_with (first | (go_at_call 17; (with_reducible refine (cp2 _ hS.tabs).mono ?_); rintro e wn ⟨rfl, hb⟩; (replace hS := hS.go hb); clear hb) | (go_at_call 14; refine (awake_c _ hS.tabs).mono ?_; rintro e wn ⟨rfl, hb⟩; (replace hS := hS.go hb); clear hb))
            go_ret
            exact ⟨rfl, hS.below⟩
          · go_wp2_with (first | (go_at_call 17; (with_reducible refine (cp2 _ hS.tabs).mono ?_); rintro e wn ⟨rfl, hb⟩; (replace hS := hS.go hb); clear hb) | (go_at_call 14; refine (awake_c _ hS.tabs).mono ?_; rintro e wn ⟨rfl, hb⟩; (replace hS := hS.go hb); clear hb))
            go_ret
            exact ⟨rfl, hS.below⟩
set_option maxRecDepth 1000000 in
set_option maxHeartbeats 2000000 in
theorem textShifts_minus (u : Int) (j : Nat) (T : ByteArray) (X : ByteArray) (x0 : 0 < X.size) (hc : ((X[0].toNat : Int) == 45) = true) (hxt : X.extract 1 X.size = T) (pos : Nat) (R2 S2 S3 B B' D1 D2 D3 D4 R : ByteArray) (w wk : World) (hS : St w wk) (hj : j ≤ 20) (n6 : 6 ≤ T.size) (n100 : T.size ≤ 100) (hp : pos < T.size)
    (hpc : ∀ k (h : k < T.size), ((T[k].toNat : Int) == 112) = decide (k = pos)) (hx2 : T.extract 0 2 = ⟨#[48, 120]⟩) (hr2 : T.extract 2 T.size = R2) (hB : T.extract 0 pos = B) (hR : T.extract pos T.size = R)
    (hinf : (bits .and .u64 u 9223372036854775807 == 9218868437227405312) = false)
    (cn : ∀ w, Calls Tryd.prog 22 #[.int .u64 u] w fun e w' => e = .returned (.bool false) ∧ w' = w)
    (cf : ∀ w, Tabs w → Calls Tryd.prog 11 #[.int .u64 u] w fun e w' => e = .returned (.string X) ∧ Below w.heap.size w w')
    (c1 : ∀ w, (Op.stringOp .add ⟨#[45]⟩ ⟨#[48, 120]⟩).run Tryd.prog w = .ok (.string ⟨#[45, 48, 120]⟩) w) (c2 : ∀ w, (Op.stringOp .add ⟨#[45, 48, 120]⟩ (zer j)).run Tryd.prog w = .ok (.string S2) w) (c3 : ∀ w, (Op.stringOp .add S2 R2).run Tryd.prog w = .ok (.string S3) w)
    (cp1 : ∀ w, Tabs w → Calls Tryd.prog 17 #[.string S3] w fun e w' => e = .returned (.tuple #[.int .u64 u, .int .i64 0]) ∧ Below w.heap.size w w')
    (hb3 : ((B.size : Int) == 3) = false ∧ B' = B ∨ ((B.size : Int) == 3) = true ∧ ∀ w, (Op.stringOp .add B ⟨#[46]⟩).run Tryd.prog w = .ok (.string B') w)
    (c5 : ∀ w, (Op.stringOp .add ⟨#[45]⟩ B').run Tryd.prog w = .ok (.string D1) w) (c6 : ∀ w, (Op.stringOp .add D1 ⟨#[48]⟩).run Tryd.prog w = .ok (.string D2) w) (c7 : ∀ w, (Op.stringOp .add D2 (zer j)).run Tryd.prog w = .ok (.string D3) w) (c8 : ∀ w, (Op.stringOp .add D3 R).run Tryd.prog w = .ok (.string D4) w)
    (cp2 : ∀ w, Tabs w → Calls Tryd.prog 17 #[.string D4] w fun e w' => e = .returned (.tuple #[.int .u64 u, .int .i64 0]) ∧ Below w.heap.size w w') :
    Calls Tryd.prog 6 #[.int .u64 u, .int .i64 j] wk fun e w' => e = .returned (.bool true) ∧ Below w.heap.size w w' := by
  
  have HP := hid hpc
  have t0 : 0 < T.size := by omega
  clear hpc
  go_enter Tryd.func6, Tryd.ntmps6
  go_wp2_with (first | (go_at_call 22; (with_reducible refine (cn _).mono ?_); rintro e wn ⟨rfl, hz⟩; (have hz' := hz.symm); subst hz'; clear hz) | (go_at_call 11; (with_reducible refine (cf _ hS.tabs).mono ?_); rintro e wn ⟨rfl, hb⟩; (replace hS := hS.go hb); clear hb))
  go_loop [7, 8] (fun z i => ∃ k : Nat, k ≤ j ∧ i = .int .i64 k ∧ z = .string (zer k)) (fun _ i => j - (intOf i).toNat)
  case atStart => exact ⟨0, Nat.zero_le _, rfl, rfl⟩
  case round =>
    obtain ⟨k, hk, rfl, rfl⟩ := hrel
    by_cases hlt : k < j
    · have cz := zer_step k (by omega)
      go_wp2_with fail
      go_round
      case rel => exact ⟨k + 1, hlt, by go_num, rfl⟩
      case measure => simp [intOf]; omega
    · have hkj : k = j := by omega
      subst hkj
      go_wp2_with (first | (go_at_call 17; (with_reducible refine (cp1 _ hS.tabs).mono ?_); rintro e wn ⟨rfl, hb⟩; (replace hS := hS.go hb); clear hb))
      go_loop [11, 12] (fun a i => ∃ n : Nat, n ≤ T.size ∧ i = .int .i64 n ∧ ((a = .int .i64 (-1) ∧ n ≤ pos) ∨ (a = .int .i64 pos ∧ pos < n))) (fun _ i => T.size - (intOf i).toNat)
      case atStart => exact ⟨0, Nat.zero_le _, rfl, Or.inl ⟨rfl, Nat.zero_le _⟩⟩
      case round =>
        obtain ⟨n, hn, rfl, ha⟩ := hrel
        by_cases hnt : n < T.size
        · have hq := HP.out n hnt
          by_cases hnp : n = pos
          · rw [decide_eq_true hnp] at hq
            have hA := hid hnp
            clear hnp
            go_wp2_with fail
            go_round
            case rel => exact ⟨n + 1, hnt, by go_num, Or.inr ⟨by rw [hA.out], by have := hA.out; omega⟩⟩
            case measure => simp [intOf]; omega
          · rw [decide_eq_false hnp] at hq
            have hA := hid hnp
            have hA2 := hid ha
            clear hnp ha
            go_wp2_with fail
            go_round
            case rel =>
              refine ⟨n + 1, hnt, by go_num, ?_⟩
              have := hA.out
              rcases hA2.out with ⟨e, h⟩ | ⟨e, h⟩
              · exact Or.inl ⟨e, by omega⟩
              · exact Or.inr ⟨e, by omega⟩
            case measure => simp [intOf]; omega
        · rcases ha with ⟨rfl, h⟩ | ⟨rfl, h⟩
          · omega
          rcases hb3 with ⟨hb3, rfl⟩ | ⟨hb3, c4⟩
          · go_wp2_with (first | (go_at_call 17; (with_reducible refine (cp2 _ hS.tabs).mono ?_); rintro e wn ⟨rfl, hb⟩; (replace hS := hS.go hb); clear hb) | (go_at_call 14; refine (awake_c _ hS.tabs).mono ?_; rintro e wn ⟨rfl, hb⟩; (replace hS := hS.go hb); clear hb))
            go_ret
            exact ⟨rfl, hS.below⟩
          · go_wp2_with (first | (go_at_call 17; (with_reducible refine (cp2 _ hS.tabs).mono ?_); rintro e wn ⟨rfl, hb⟩; (replace hS := hS.go hb); clear hb) | (go_at_call 14; refine (awake_c _ hS.tabs).mono ?_; rintro e wn ⟨rfl, hb⟩; (replace hS := hS.go hb); clear hb))
            go_ret
            exact ⟨rfl, hS.below⟩
theorem readF_zero (r : List UInt8) (h : (48 :: r).length ≤ 64) : readF (48 :: r) = readS 0 (48 :: r) := by
  unfold readF
  rw [if_neg (by omega), if_neg (by intro e; injection e with e1; revert e1; decide), if_neg (by intro e; injection e with e1; revert e1; decide), if_neg (by intro e; injection e with e1; revert e1; decide)]
  rfl
theorem readF_minus (r : List UInt8) (h : (45 :: 48 :: r).length ≤ 64) : readF (45 :: 48 :: r) = readS 9223372036854775808 (48 :: r) := by
  unfold readF
  rw [if_neg (by omega), if_neg (by intro e; injection e with e1; revert e1; decide), if_neg (by intro e; injection e with e1; revert e1; decide), if_neg (by intro e; injection e with e1 e2; injection e2 with e3; revert e3; decide)]
  rfl
theorem cut_to (l : List UInt8) (k : Nat) : (⟨l.toArray⟩ : ByteArray).extract 0 k = ⟨(l.take k).toArray⟩ := by
  rw [ByteArray.extract_mk]
  simp
theorem cut_str (l : List UInt8) (k : Nat) : (⟨l.toArray⟩ : ByteArray).extract k (⟨l.toArray⟩ : ByteArray).size = ⟨(l.drop k).toArray⟩ := cut_from ⟨l.toArray⟩ k
theorem get_str (l : List UInt8) (k : Nat) (h : k < (⟨l.toArray⟩ : ByteArray).size) (h' : k < l.length) : (⟨l.toArray⟩ : ByteArray)[k]'h = l[k]'h' := rfl
theorem only_p (A C : List UInt8) (hA : ∀ c ∈ A, c ≠ 112) (hC : ∀ c ∈ C, c ≠ 112) (k : Nat) (h : k < (A ++ 112 :: C).length) : (A ++ 112 :: C)[k] = 112 ↔ k = A.length := by
  constructor
  · intro e
    rcases Nat.lt_trichotomy k A.length with hk | hk | hk
    · rw [List.getElem_append_left hk] at e
      exact absurd e (hA _ (List.getElem_mem hk))
    · exact hk
    · rw [List.getElem_append_right (by omega)] at e
      obtain ⟨m, hm⟩ : ∃ m, k - A.length = m + 1 := ⟨k - A.length - 1, by omega⟩
      have e2 : (112 :: C)[k - A.length]'(by simp at h ⊢; omega) = C[m]'(by simp at h; omega) := by
        simp [hm]
      rw [e2] at e
      exact absurd e (hC _ (List.getElem_mem _))
  · intro e
    subst e
    simp
theorem and63n (n : Int) (h0 : 0 ≤ n) (h1 : n < 18446744073709551616) : bits .and .u64 n 9223372036854775807 = n % 9223372036854775808 := by
  rw [u64_and n _ h0 h1 (by decide) (by decide)]
  have e : (9223372036854775807 : Int).toNat = 2 ^ 63 - 1 := by decide
  rw [e, Nat.and_two_pow_sub_one_eq_mod]
  omega
theorem hex_no112 (c : UInt8) (h : hexB c = true) : c ≠ 112 := by
  intro e; subst e; revert h; decide
/-- the parts of a finite pattern's text, and what the statement makes of them -/
theorem shift_parts (a j : Nat) (h1 : a < 9218868437227405312) :
    ∃ F C : List UInt8, posT a = [48, 120, firstD a] ++ F ++ 112 :: C ∧ (∀ c ∈ [48, 120, firstD a] ++ F, c ≠ 112) ∧ (∀ c ∈ C, c ≠ 112) ∧ 2 ≤ C.length ∧ ((posT a).length ≤ 23) ∧ (F = [] ∨ F ≠ []) ∧
      (∀ s : Int, readS s (48 :: 120 :: (List.replicate j 48 ++ (firstD a :: (F ++ 112 :: C)))) = (s + a, 0)) ∧
      (∀ s : Int, readS s ((if F = [] then [48, 120, firstD a] ++ [46] else [48, 120, firstD a] ++ F) ++ [48] ++ List.replicate j 48 ++ 112 :: C) = (s + a, 0)) := by
  obtain ⟨sg, ds, eT, h2, h3, h4, h5, -⟩ := parts_exact a 0 0 h1
  have hp := posT_parts a h1
  have hl := posT_len a (by omega)
  have fx := frac_hex a h1
  refine ⟨if fracT a = [] then [] else 46 :: fracT a, sg :: ds, ?_, ?_, ?_, ?_, hl, by by_cases q : (if fracT a = [] then [] else 46 :: fracT a) = ([] : List UInt8); exact Or.inl q; exact Or.inr q, ?_, ?_⟩
  · rw [hp, eT]; simp
  · intro c hc
    rcases List.mem_append.1 hc with hc | hc
    · simp only [List.mem_cons, List.not_mem_nil, or_false] at hc
      rcases hc with rfl | rfl | rfl
      · decide
      · decide
      · exact hex_no112 _ (first_hex a)
    · by_cases q : fracT a = []
      · rw [if_pos q] at hc; cases hc
      · rw [if_neg q] at hc
        rcases List.mem_cons.1 hc with rfl | hc
        · decide
        · exact hex_no112 _ (fx c hc)
  · intro c hc
    rcases List.mem_cons.1 hc with rfl | hc
    · rcases h2 with rfl | rfl <;> decide
    · have := of_decide_eq_true (List.all_eq_true.1 h5 c hc)
      intro e; subst e; revert this; decide
  · have := List.length_pos_iff.2 h3
    simp; omega
  · intro s
    have r := readS_noughts s a j 0 h1
    rw [eT] at r
    simp only [List.replicate_zero, List.append_nil] at r
    rw [← r]
    congr 1
    simp
  · intro s
    have r := readS_noughts s a 0 (j + 1) h1
    rw [eT, if_neg (by simp)] at r
    rw [← r]
    congr 1
    by_cases q : fracT a = []
    · simp [q, List.replicate_succ]
    · simp [q, List.replicate_succ]
theorem parseF2 (l : List UInt8) (x e : Int) (hl : l.length ≤ 1000) (h : readF l = (x, e)) (w : World) (ht : Tabs w) :
    Calls Tryd.prog 17 #[.string ⟨l.toArray⟩] w fun r w' => r = .returned (.tuple #[.int .u64 x, .int .i64 e]) ∧ Below w.heap.size w w' := by
  have c := parseFloat_c ⟨l.toArray⟩ (str_max l hl) w ht
  have e1 : readF (⟨l.toArray⟩ : ByteArray).data.toList = (x, e) := h
  rw [e1] at c
  exact c
set_option maxHeartbeats 400000 in
theorem textShifts_skip (u j : Int) (b : Bool) (w : World) (cn : ∀ w, Calls Tryd.prog 22 #[.int .u64 u] w fun e w' => e = .returned (.bool b) ∧ w' = w)
    (h : j < 0 ∨ ¬ j < 0 ∧ 20 < j ∨ ¬ j < 0 ∧ ¬ 20 < j ∧ b = true ∨ ¬ j < 0 ∧ ¬ 20 < j ∧ b = false ∧ (bits .and .u64 u 9223372036854775807 == 9218868437227405312) = true) :
    Calls Tryd.prog 6 #[.int .u64 u, .int .i64 j] w fun e w' => e = .returned (.bool true) ∧ Below w.heap.size w w' := by
  rcases h with h | ⟨h, h2⟩ | ⟨h, h2, rfl⟩ | ⟨h, h2, rfl, h3⟩
  all_goals
    go_enter Tryd.func6, Tryd.ntmps6
    go_wp2_with (first | (go_at_call 22; (with_reducible refine (cn _).mono ?_); rintro e wn ⟨rfl, hz⟩; (have hz' := hz.symm); subst hz'; clear hz))
    go_ret
    exact ⟨rfl, Below.refl _ _⟩
theorem textShifts_walk (a0 a1 : Int) (h0 : (Lit.int .u64 a0).wf = true) (h1 : (Lit.int .i64 a1).wf = true) (w : World) (ht : Tabs w) :
    Calls Tryd.prog 6 #[.int .u64 a0, .int .i64 a1] w fun e w' => e = .returned (.bool true) ∧ Below w.heap.size w w' := by
  replace h0 := bounds_u64 h0
  replace h1 := bounds_i64 h1
  have cn := refNaN_c a0 (by omega) (by omega)
  have hm := and63n a0 (by omega) (by omega)
  by_cases q1 : a1 < 0
  · exact textShifts_skip a0 a1 _ w cn (Or.inl q1)
  by_cases q2 : 20 < a1
  · exact textShifts_skip a0 a1 _ w cn (Or.inr (Or.inl ⟨q1, q2⟩))
  cases hn : nanB a0 with
  | true => exact textShifts_skip a0 a1 _ w cn (Or.inr (Or.inr (Or.inl ⟨q1, q2, hn⟩)))
  | false =>
    by_cases q3 : a0 % 9223372036854775808 = 9218868437227405312
    · exact textShifts_skip a0 a1 _ w cn (Or.inr (Or.inr (Or.inr ⟨q1, q2, hn, by rw [hm, q3]; rfl⟩)))
    · rw [hn] at cn
      have hinf : (bits .and .u64 a0 9223372036854775807 == 9218868437227405312) = false := by rw [hm, beq_eq_false_iff_ne]; exact q3
      have hfin : (a0 % 9223372036854775808).toNat < 9218868437227405312 := by
        rw [nan_size] at hn
        have := of_decide_eq_false hn
        omega
      obtain ⟨j, rfl⟩ := Int.eq_ofNat_of_zero_le (show 0 ≤ a1 by omega)
      obtain ⟨F, C, eP, nA, nC, lC, lP, -, r1, r2⟩ := shift_parts (a0 % 9223372036854775808).toNat j hfin
      have eS := fltT_sign a0 (by omega) (by omega) hn
      have cf := fun w h => float_c a0 (by omega) (by omega) w h
      generalize posT (a0 % 9223372036854775808).toNat = P at *
      generalize firstD (a0 % 9223372036854775808).toNat = d at *
      have lP2 : P.length = 3 + F.length + 1 + C.length := by rw [eP]; simp; omega
      have hsz := str_len P
      have hpc : ∀ k (h : k < (⟨P.toArray⟩ : ByteArray).size), (((⟨P.toArray⟩ : ByteArray)[k].toNat : Int) == 112) = decide (k = 3 + F.length) := by
        intro k h
        rw [chr112]
        have h' : k < P.length := by rw [hsz] at h; exact h
        rw [get_str P k h h']
        have := only_p ([48, 120, d] ++ F) C nA nC k (by rw [← eP]; exact h')
        have e3 : ([48, 120, d] ++ F).length = 3 + F.length := by simp; omega
        rw [e3] at this
        simp only [← eP] at this
        rw [Bool.eq_iff_iff, decide_eq_true_eq, decide_eq_true_eq]
        exact this
      have tk2 : P.take 2 = [48, 120] := by rw [eP]; rfl
      have dr2 : P.drop 2 = d :: (F ++ 112 :: C) := by rw [eP]; rfl
      have tkp : P.take (3 + F.length) = [48, 120, d] ++ F := by
        rw [eP, List.take_left' (by simp; omega)]
      have drp : P.drop (3 + F.length) = 112 :: C := by
        rw [eP, List.drop_left' (by simp; omega)]
      have x2 : (⟨P.toArray⟩ : ByteArray).extract 0 2 = ⟨#[48, 120]⟩ := by rw [cut_to P 2, tk2]
      have xr2 : (⟨P.toArray⟩ : ByteArray).extract 2 (⟨P.toArray⟩ : ByteArray).size = ⟨(d :: (F ++ 112 :: C)).toArray⟩ := by rw [cut_str, dr2]
      have xB : (⟨P.toArray⟩ : ByteArray).extract 0 (3 + F.length) = ⟨([48, 120, d] ++ F).toArray⟩ := by rw [cut_to P _, tkp]
      have xR : (⟨P.toArray⟩ : ByteArray).extract (3 + F.length) (⟨P.toArray⟩ : ByteArray).size = ⟨(112 :: C).toArray⟩ := by rw [cut_str, drp]
      have hb3 : (((⟨([48, 120, d] ++ F).toArray⟩ : ByteArray).size : Int) == 3) = false ∧ (⟨(if F = [] then [48, 120, d] ++ [46] else [48, 120, d] ++ F).toArray⟩ : ByteArray) = ⟨([48, 120, d] ++ F).toArray⟩ ∨
          (((⟨([48, 120, d] ++ F).toArray⟩ : ByteArray).size : Int) == 3) = true ∧ ∀ w, (Op.stringOp .add ⟨([48, 120, d] ++ F).toArray⟩ ⟨#[46]⟩).run Tryd.prog w = .ok (.string ⟨(if F = [] then [48, 120, d] ++ [46] else [48, 120, d] ++ F).toArray⟩) w := by
        rw [str_len]
        by_cases q : F = []
        · subst q
          refine Or.inr ⟨rfl, fun w => ?_⟩
          exact run_string_add_lists w [48, 120, d] [46] (by simp) (by decide)
        · have := List.length_pos_iff.2 q
          refine Or.inl ⟨by rw [beq_eq_false_iff_ne]; simp; omega, by rw [if_neg q]⟩
      generalize hG : (if F = [] then [48, 120, d] ++ [46] else [48, 120, d] ++ F) = G at *
      have lG : G.length ≤ 4 + F.length := by rw [← hG]; split <;> simp <;> omega
      obtain ⟨g2, hg2⟩ : ∃ g2, G = 48 :: g2 := by rw [← hG]; split <;> exact ⟨_, rfl⟩
      have lz : (List.replicate j (48 : UInt8)).length = j := List.length_replicate
      by_cases hs : 9223372036854775808 ≤ a0
      · rw [decide_eq_true hs] at eS
        have eS2 : fltT a0 = 45 :: P := eS
        rw [eS2] at cf
        have er1 : readF (([45, 48, 120] ++ List.replicate j 48) ++ (d :: (F ++ 112 :: C))) = (a0, 0) := by
          have e : ([45, 48, 120] ++ List.replicate j 48) ++ (d :: (F ++ 112 :: C)) = 45 :: 48 :: (120 :: (List.replicate j 48 ++ (d :: (F ++ 112 :: C)))) := by simp
          rw [e, readF_minus _ (by simp; omega), r1]
          congr 1; omega
        have er2 : readF (((([45] ++ G) ++ [48]) ++ List.replicate j 48) ++ 112 :: C) = (a0, 0) := by
          have e : ((([45] ++ G) ++ [48]) ++ List.replicate j 48) ++ 112 :: C = 45 :: (((G ++ [48]) ++ List.replicate j 48) ++ 112 :: C) := by simp
          rw [e]
          have r2' := r2 9223372036854775808
          rw [hg2] at r2' lG ⊢
          simp only [List.cons_append] at r2' ⊢
          rw [readF_minus _ (by simp at lG ⊢; omega), r2']
          congr 1; omega
        exact textShifts_minus a0 j _ ⟨(45 :: P).toArray⟩ (by rw [str_len]; simp) rfl (by rw [cut_str]; rfl) (3 + F.length) _ _ _ _ _ _ _ _ _ _ w w (St.start ht) (by omega) (by rw [hsz]; omega) (by rw [hsz]; omega) (by rw [hsz]; omega) hpc x2 xr2 xB xR hinf cn cf
          (fun w => run_string_add_lists w [45] [48, 120] (by decide) (by decide)) (fun w => run_string_add_lists w [45, 48, 120] _ (by decide) (by omega)) (fun w => run_string_add_lists w _ _ (by simp; omega) (by simp; omega))
          (fun w h => parseF2 _ _ _ (by simp; omega) er1 w h) hb3
          (fun w => run_string_add_lists w [45] _ (by decide) (by omega)) (fun w => run_string_add_lists w _ [48] (by simp; omega) (by decide)) (fun w => run_string_add_lists w _ _ (by simp; omega) (by omega)) (fun w => run_string_add_lists w _ _ (by simp; omega) (by simp; omega))
          (fun w h => parseF2 _ _ _ (by simp; omega) er2 w h)
      · rw [decide_eq_false hs] at eS
        have eS2 : fltT a0 = P := eS
        rw [eS2] at cf
        have er1 : readF (([48, 120] ++ List.replicate j 48) ++ (d :: (F ++ 112 :: C))) = (a0, 0) := by
          have e : ([48, 120] ++ List.replicate j 48) ++ (d :: (F ++ 112 :: C)) = 48 :: (120 :: (List.replicate j 48 ++ (d :: (F ++ 112 :: C)))) := by simp
          rw [e, readF_zero _ (by simp; omega), r1]
          congr 1; omega
        have er2 : readF (((([] ++ G) ++ [48]) ++ List.replicate j 48) ++ 112 :: C) = (a0, 0) := by
          have e : ((([] ++ G) ++ [48]) ++ List.replicate j 48) ++ 112 :: C = ((G ++ [48]) ++ List.replicate j 48) ++ 112 :: C := by simp
          rw [e]
          have r2' := r2 0
          rw [hg2] at r2' lG ⊢
          simp only [List.cons_append] at r2' ⊢
          rw [readF_zero _ (by simp at lG ⊢; omega), r2']
          congr 1; omega
        refine textShifts_plus a0 j ⟨P.toArray⟩ (fun h => ?_) (3 + F.length) _ _ _ _ _ _ _ _ _ _ w w (St.start ht) (by omega) (by rw [hsz]; omega) (by rw [hsz]; omega) (by rw [hsz]; omega) hpc x2 xr2 xB xR hinf cn cf
          (fun w => run_string_add_lists w [] [48, 120] (by decide) (by decide)) (fun w => run_string_add_lists w [48, 120] _ (by decide) (by omega)) (fun w => run_string_add_lists w _ _ (by simp; omega) (by simp; omega))
          (fun w h => parseF2 _ _ _ (by simp; omega) er1 w h) hb3
          (fun w => run_string_add_lists w [] _ (by decide) (by omega)) (fun w => run_string_add_lists w _ [48] (by simp; omega) (by decide)) (fun w => run_string_add_lists w _ _ (by simp; omega) (by omega)) (fun w => run_string_add_lists w _ _ (by simp; omega) (by simp; omega))
          (fun w h => parseF2 _ _ _ (by simp; omega) er2 w h)
        have e0 : (⟨P.toArray⟩ : ByteArray)[0] = 48 := by
          rw [get_str P 0 h (by omega)]
          simp [eP]
        rw [e0]; rfl
end Go.Proofs.YtmdpnoebpjoiaaaDoor.W
