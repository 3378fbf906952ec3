/- Package lex: how a byte of a string is spelt. -/
import Derived.Test.YtdoojooepkdlhaaDoorX1f
import Derived.BigQuiet
namespace Go.Proofs.YtdoojooepkdlhaaDoor.W
open Go.ChangeShapes Go.WideShapes Go.RowKit Go.Shelf
set_option linter.unusedVariables false
set_option linter.unusedSimpArgs false
def hexBP (l : List UInt8) : Nat × Nat := match l with
  | _ :: _ :: h :: lo :: _ => if hexB h = true ∧ hexB lo = true then ((16 * hexV h + hexV lo).toNat, 4) else (0, 0)
  | _ => (0, 0)
theorem hexBP_short (l : List UInt8) (h : l.length < 4) : hexBP l = (0, 0) := by
  unfold hexBP
  split
  · simp at h; omega
  · rfl
theorem hexBP_at (s : ByteArray) (h : 4 ≤ s.size) : hexBP s.data.toList = if hexB s[2] = true ∧ hexB s[3] = true then ((16 * hexV s[2] + hexV s[3]).toNat, 4) else (0, 0) := by
  have e2 := get_at s 2 (by omega)
  have e3 := get_at s 3 (by omega)
  have sl := size_list s
  match hl : s.data.toList, e2, e3 with
  | a :: b :: c :: d :: r, e2, e3 =>
    simp at e2 e3
    rw [← e2, ← e3]
    rfl
  | [], e2, _ => cases e2
  | [_], e2, _ => cases e2
  | [_, _], e2, _ => cases e2
  | [_, _, _], _, e3 => cases e3
theorem hexV_lt (c : UInt8) : hexV c < 16 := by
  have all : ∀ n : Fin 256, hexV (UInt8.ofNat n) < 16 := by decide +kernel
  have := all ⟨c.toNat, c.toNat_lt⟩
  simpa using this
theorem hex_join (h l : Int) (h0 : 0 ≤ h) (h1 : h < 16) (l0 : 0 ≤ l) (l1 : l < 16) : bits .or .i64 (h * 16) l % 256 = (((16 * h + l).toNat : Nat) : Int) := by
  have all : ∀ a b : Fin 16, bits .or .i64 (((a.val : Nat) : Int) * 16) ((b.val : Nat) : Int) % 256 = (((16 * ((a.val : Nat) : Int) + ((b.val : Nat) : Int)).toNat : Nat) : Int) := by decide +kernel
  have := all ⟨h.toNat, by omega⟩ ⟨l.toNat, by omega⟩
  simp only [Int.toNat_of_nonneg h0, Int.toNat_of_nonneg l0] at this
  exact this
set_option maxHeartbeats 1000000 in
theorem hexByte_c (s : ByteArray) (hs : s.size ≤ 1000000) (w : World) : Calls Tryd.prog 56 #[.string s] w fun e w' => e = .returned (.tuple #[.int .u8 ((hexBP s.data.toList).1 : Nat), .int .i64 ((hexBP s.data.toList).2 : Nat)]) ∧ Below w.heap.size w w' := by
  have sl := size_list s
  by_cases c : s.size < 4
  · rw [hexBP_short _ (by omega)]
    go_enter Tryd.func56, Tryd.ntmps56
    go_wp2
    go_ret2
    exact ⟨rfl, Below.refl _ _⟩
  · have h2 : 2 < s.size := by omega
    have h3 : 3 < s.size := by omega
    have g2 : (2 : Int) < s.size := by omega
    have g3 : (3 : Int) < s.size := by omega
    rw [hexBP_at s (by omega)]
    have c2 := fun w => indexHex_c s[2] w
    have c3 := fun w => indexHex_c s[3] w
    have b2 := hexV_lt s[2]
    have b3 := hexV_lt s[3]
    have j := hex_join (hexV s[2]) (hexV s[3])
    have e2 : hexB s[2] = decide (0 ≤ hexV s[2]) := rfl
    have e3 : hexB s[3] = decide (0 ≤ hexV s[3]) := rfl
    rw [e2, e3]
    clear e2 e3
    generalize hexV s[2] = H at *
    generalize hexV s[3] = L at *
    clear sl
    by_cases n2 : 0 ≤ H
    · by_cases n3 : 0 ≤ L
      · rw [if_pos ⟨decide_eq_true n2, decide_eq_true n3⟩]
        have J := hid (j n2 b2 n3 b3)
        generalize (16 * H + L).toNat = v at *
        have n2' : ¬ H < 0 := by omega
        have n3' : ¬ L < 0 := by omega
        clear j n2 n3
        go_enter Tryd.func56, Tryd.ntmps56
        go_upto_region 3 with fail
        (refine wp_region_held_drew (S := fun _ => True) (by kernel_rfl) trivial ?_); intro hS; (refine wpAnyH_take (i := 0) (v := ?_) rfl (by kernel_rfl) (by kernel_rfl) (by kernel_rfl) (fun _ _ _ h => h) (Or.inl ⟨by rfl, ?_⟩) hS ?_); rotate_left; (focus (intro w' hSw; go_simp; (try with_reducible rfl))); (try simp only [Act.put, List.getElem_toArray, List.getElem_cons_zero, List.getElem_cons_succ, List.setIfInBounds_toArray, List.set_cons_zero, List.set_cons_succ]); (refine wpAnyH_take (i := 1) (v := ?_) rfl (by kernel_rfl) (by kernel_rfl) (by kernel_rfl) (fun _ _ _ h => h) (Or.inl ⟨by rfl, ?_⟩) hS ?_); rotate_left; (focus (intro w' hSw; go_simp; (try with_reducible rfl))); (try simp only [Act.put, List.getElem_toArray, List.getElem_cons_zero, List.getElem_cons_succ, List.setIfInBounds_toArray, List.set_cons_zero, List.set_cons_succ]); (refine wpAnyH_take (i := 3) (v := ?_) rfl (by kernel_rfl) (by kernel_rfl) (by kernel_rfl) (fun _ _ _ h => h) (Or.inl ⟨by rfl, ?_⟩) hS ?_); rotate_left; (focus (intro w' hSw; go_simp; (try with_reducible rfl))); (try simp only [Act.put, List.getElem_toArray, List.getElem_cons_zero, List.getElem_cons_succ, List.setIfInBounds_toArray, List.set_cons_zero, List.set_cons_succ]); (refine wpAnyH_take (i := 4) (v := ?_) rfl (by kernel_rfl) (by kernel_rfl) (by kernel_rfl) (fun _ _ _ h => h) (Or.inl ⟨by rfl, ?_⟩) hS ?_); rotate_left; (focus (intro w' hSw; go_simp; (try with_reducible rfl))); (try simp only [Act.put, List.getElem_toArray, List.getElem_cons_zero, List.getElem_cons_succ, List.setIfInBounds_toArray, List.set_cons_zero, List.set_cons_succ]); (refine wpAnyH_ready (rs := [2]) (by kernel_rfl) (by simp) ?_); (refine AllReadyH.cons rfl (fun K hK => ?_) AllReadyH.nil); go_simp; (refine (c2 _).mono ?_); rintro e w' ⟨rfl, rfl⟩; (refine hK.out _ _ trivial (fun hS => ?_)); clear hK K; (try simp only [Act.put, List.getElem_toArray, List.getElem_cons_zero, List.getElem_cons_succ, List.setIfInBounds_toArray, List.set_cons_zero, List.set_cons_succ]); (refine wpAnyH_ready (rs := [5]) (by kernel_rfl) (by simp) ?_); (refine AllReadyH.cons rfl (fun K hK => ?_) AllReadyH.nil); go_simp; (refine (c3 _).mono ?_); rintro e w' ⟨rfl, rfl⟩; (refine hK.out _ _ trivial (fun hS => ?_)); clear hK K; (try simp only [Act.put, List.getElem_toArray, List.getElem_cons_zero, List.getElem_cons_succ, List.setIfInBounds_toArray, List.set_cons_zero, List.set_cons_succ]); (refine wpAnyH_take (i := 6) (v := ?_) rfl (by kernel_rfl) (by kernel_rfl) (by kernel_rfl) (fun _ _ _ h => h) (Or.inl ⟨by rfl, ?_⟩) hS ?_); rotate_left; (focus (intro w' hSw; go_simp; (try with_reducible rfl))); (try simp only [Act.put, List.getElem_toArray, List.getElem_cons_zero, List.getElem_cons_succ, List.setIfInBounds_toArray, List.set_cons_zero, List.set_cons_succ]); (refine wpAnyH_take (i := 7) (v := ?_) rfl (by kernel_rfl) (by kernel_rfl) (by kernel_rfl) (fun _ _ _ h => h) (Or.inl ⟨by rfl, ?_⟩) hS ?_); rotate_left; (focus (intro w' hSw; go_simp; (try with_reducible rfl))); (try simp only [Act.put, List.getElem_toArray, List.getElem_cons_zero, List.getElem_cons_succ, List.setIfInBounds_toArray, List.set_cons_zero, List.set_cons_succ]); (refine wpAnyH_done (by kernel_rfl) ?_ _)
        all_goals (
          go_wp2
          go_ret2
          refine ⟨?_, ⟨rfl, rfl, rfl, Nat.le_refl _, fun _ _ => rfl⟩⟩
          show Ending.returned (.tuple #[.int .u8 (bits .or .i64 (H * 16) L % 256), .int .i64 4]) = _
          rw [J.out])
      · rw [if_neg (fun g => n3 (of_decide_eq_true g.2))]
        have n2' : ¬ H < 0 := by omega
        have n3' : L < 0 := by omega
        clear j n2 n3
        go_enter Tryd.func56, Tryd.ntmps56
        go_upto_region 3 with fail
        (refine wp_region_held_drew (S := fun _ => True) (by kernel_rfl) trivial ?_); intro hS; (refine wpAnyH_take (i := 0) (v := ?_) rfl (by kernel_rfl) (by kernel_rfl) (by kernel_rfl) (fun _ _ _ h => h) (Or.inl ⟨by rfl, ?_⟩) hS ?_); rotate_left; (focus (intro w' hSw; go_simp; (try with_reducible rfl))); (try simp only [Act.put, List.getElem_toArray, List.getElem_cons_zero, List.getElem_cons_succ, List.setIfInBounds_toArray, List.set_cons_zero, List.set_cons_succ]); (refine wpAnyH_take (i := 1) (v := ?_) rfl (by kernel_rfl) (by kernel_rfl) (by kernel_rfl) (fun _ _ _ h => h) (Or.inl ⟨by rfl, ?_⟩) hS ?_); rotate_left; (focus (intro w' hSw; go_simp; (try with_reducible rfl))); (try simp only [Act.put, List.getElem_toArray, List.getElem_cons_zero, List.getElem_cons_succ, List.setIfInBounds_toArray, List.set_cons_zero, List.set_cons_succ]); (refine wpAnyH_take (i := 3) (v := ?_) rfl (by kernel_rfl) (by kernel_rfl) (by kernel_rfl) (fun _ _ _ h => h) (Or.inl ⟨by rfl, ?_⟩) hS ?_); rotate_left; (focus (intro w' hSw; go_simp; (try with_reducible rfl))); (try simp only [Act.put, List.getElem_toArray, List.getElem_cons_zero, List.getElem_cons_succ, List.setIfInBounds_toArray, List.set_cons_zero, List.set_cons_succ]); (refine wpAnyH_take (i := 4) (v := ?_) rfl (by kernel_rfl) (by kernel_rfl) (by kernel_rfl) (fun _ _ _ h => h) (Or.inl ⟨by rfl, ?_⟩) hS ?_); rotate_left; (focus (intro w' hSw; go_simp; (try with_reducible rfl))); (try simp only [Act.put, List.getElem_toArray, List.getElem_cons_zero, List.getElem_cons_succ, List.setIfInBounds_toArray, List.set_cons_zero, List.set_cons_succ]); (refine wpAnyH_ready (rs := [2]) (by kernel_rfl) (by simp) ?_); (refine AllReadyH.cons rfl (fun K hK => ?_) AllReadyH.nil); go_simp; (refine (c2 _).mono ?_); rintro e w' ⟨rfl, rfl⟩; (refine hK.out _ _ trivial (fun hS => ?_)); clear hK K; (try simp only [Act.put, List.getElem_toArray, List.getElem_cons_zero, List.getElem_cons_succ, List.setIfInBounds_toArray, List.set_cons_zero, List.set_cons_succ]); (refine wpAnyH_ready (rs := [5]) (by kernel_rfl) (by simp) ?_); (refine AllReadyH.cons rfl (fun K hK => ?_) AllReadyH.nil); go_simp; (refine (c3 _).mono ?_); rintro e w' ⟨rfl, rfl⟩; (refine hK.out _ _ trivial (fun hS => ?_)); clear hK K; (try simp only [Act.put, List.getElem_toArray, List.getElem_cons_zero, List.getElem_cons_succ, List.setIfInBounds_toArray, List.set_cons_zero, List.set_cons_succ]); (refine wpAnyH_take (i := 6) (v := ?_) rfl (by kernel_rfl) (by kernel_rfl) (by kernel_rfl) (fun _ _ _ h => h) (Or.inl ⟨by rfl, ?_⟩) hS ?_); rotate_left; (focus (intro w' hSw; go_simp; (try with_reducible rfl))); (try simp only [Act.put, List.getElem_toArray, List.getElem_cons_zero, List.getElem_cons_succ, List.setIfInBounds_toArray, List.set_cons_zero, List.set_cons_succ]); (refine wpAnyH_take (i := 7) (v := ?_) rfl (by kernel_rfl) (by kernel_rfl) (by kernel_rfl) (fun _ _ _ h => h) (Or.inl ⟨by rfl, ?_⟩) hS ?_); rotate_left; (focus (intro w' hSw; go_simp; (try with_reducible rfl))); (try simp only [Act.put, List.getElem_toArray, List.getElem_cons_zero, List.getElem_cons_succ, List.setIfInBounds_toArray, List.set_cons_zero, List.set_cons_succ]); (refine wpAnyH_done (by kernel_rfl) ?_ _)
        all_goals (
          go_wp2
          go_ret2
          exact ⟨rfl, ⟨rfl, rfl, rfl, Nat.le_refl _, fun _ _ => rfl⟩⟩)
    · rw [if_neg (fun g => n2 (of_decide_eq_true g.1))]
      have n2' : H < 0 := by omega
      clear j n2
      go_enter Tryd.func56, Tryd.ntmps56
      go_upto_region 3 with fail
      (refine wp_region_held_drew (S := fun _ => True) (by kernel_rfl) trivial ?_); intro hS; (refine wpAnyH_take (i := 0) (v := ?_) rfl (by kernel_rfl) (by kernel_rfl) (by kernel_rfl) (fun _ _ _ h => h) (Or.inl ⟨by rfl, ?_⟩) hS ?_); rotate_left; (focus (intro w' hSw; go_simp; (try with_reducible rfl))); (try simp only [Act.put, List.getElem_toArray, List.getElem_cons_zero, List.getElem_cons_succ, List.setIfInBounds_toArray, List.set_cons_zero, List.set_cons_succ]); (refine wpAnyH_take (i := 1) (v := ?_) rfl (by kernel_rfl) (by kernel_rfl) (by kernel_rfl) (fun _ _ _ h => h) (Or.inl ⟨by rfl, ?_⟩) hS ?_); rotate_left; (focus (intro w' hSw; go_simp; (try with_reducible rfl))); (try simp only [Act.put, List.getElem_toArray, List.getElem_cons_zero, List.getElem_cons_succ, List.setIfInBounds_toArray, List.set_cons_zero, List.set_cons_succ]); (refine wpAnyH_take (i := 3) (v := ?_) rfl (by kernel_rfl) (by kernel_rfl) (by kernel_rfl) (fun _ _ _ h => h) (Or.inl ⟨by rfl, ?_⟩) hS ?_); rotate_left; (focus (intro w' hSw; go_simp; (try with_reducible rfl))); (try simp only [Act.put, List.getElem_toArray, List.getElem_cons_zero, List.getElem_cons_succ, List.setIfInBounds_toArray, List.set_cons_zero, List.set_cons_succ]); (refine wpAnyH_take (i := 4) (v := ?_) rfl (by kernel_rfl) (by kernel_rfl) (by kernel_rfl) (fun _ _ _ h => h) (Or.inl ⟨by rfl, ?_⟩) hS ?_); rotate_left; (focus (intro w' hSw; go_simp; (try with_reducible rfl))); (try simp only [Act.put, List.getElem_toArray, List.getElem_cons_zero, List.getElem_cons_succ, List.setIfInBounds_toArray, List.set_cons_zero, List.set_cons_succ]); (refine wpAnyH_ready (rs := [2]) (by kernel_rfl) (by simp) ?_); (refine AllReadyH.cons rfl (fun K hK => ?_) AllReadyH.nil); go_simp; (refine (c2 _).mono ?_); rintro e w' ⟨rfl, rfl⟩; (refine hK.out _ _ trivial (fun hS => ?_)); clear hK K; (try simp only [Act.put, List.getElem_toArray, List.getElem_cons_zero, List.getElem_cons_succ, List.setIfInBounds_toArray, List.set_cons_zero, List.set_cons_succ]); (refine wpAnyH_ready (rs := [5]) (by kernel_rfl) (by simp) ?_); (refine AllReadyH.cons rfl (fun K hK => ?_) AllReadyH.nil); go_simp; (refine (c3 _).mono ?_); rintro e w' ⟨rfl, rfl⟩; (refine hK.out _ _ trivial (fun hS => ?_)); clear hK K; (try simp only [Act.put, List.getElem_toArray, List.getElem_cons_zero, List.getElem_cons_succ, List.setIfInBounds_toArray, List.set_cons_zero, List.set_cons_succ]); (refine wpAnyH_take (i := 6) (v := ?_) rfl (by kernel_rfl) (by kernel_rfl) (by kernel_rfl) (fun _ _ _ h => h) (Or.inl ⟨by rfl, ?_⟩) hS ?_); rotate_left; (focus (intro w' hSw; go_simp; (try with_reducible rfl))); (try simp only [Act.put, List.getElem_toArray, List.getElem_cons_zero, List.getElem_cons_succ, List.setIfInBounds_toArray, List.set_cons_zero, List.set_cons_succ]); (refine wpAnyH_take (i := 7) (v := ?_) rfl (by kernel_rfl) (by kernel_rfl) (by kernel_rfl) (fun _ _ _ h => h) (Or.inl ⟨by rfl, ?_⟩) hS ?_); rotate_left; (focus (intro w' hSw; go_simp; (try with_reducible rfl))); (try simp only [Act.put, List.getElem_toArray, List.getElem_cons_zero, List.getElem_cons_succ, List.setIfInBounds_toArray, List.set_cons_zero, List.set_cons_succ]); (refine wpAnyH_done (by kernel_rfl) ?_ _)
      all_goals (
        go_wp2
        go_ret2
        exact ⟨rfl, ⟨rfl, rfl, rfl, Nat.le_refl _, fun _ _ => rfl⟩⟩)
/-- the byte and the count, out of the first two bytes -/
theorem spelt_head (c : UInt8) (q : List UInt8) : (c.toNat < 32 ∨ 126 < c.toNat → speltP (c :: q) = (0, 0)) ∧ (¬ (c.toNat < 32 ∨ 126 < c.toNat) → c ≠ 92 → speltP (c :: q) = (c.toNat, 1)) := by
  constructor
  · intro h; unfold speltP; exact if_pos h
  · intro h1 h2; unfold speltP; dsimp only; rw [if_neg h1, if_neg h2]
theorem spelt_esc (q : List UInt8) : (q = [] → speltP (92 :: q) = (0, 0)) ∧ (∀ d r, q = d :: r → (d = 92 → speltP (92 :: q) = (92, 2)) ∧ (d = 34 → speltP (92 :: q) = (34, 2)) ∧ (d = 110 → speltP (92 :: q) = (10, 2)) ∧ (d = 120 → speltP (92 :: q) = hexBP (92 :: q)) ∧ (d ≠ 92 → d ≠ 34 → d ≠ 110 → d ≠ 120 → speltP (92 :: q) = (0, 0))) := by
  refine ⟨by rintro rfl; rfl, ?_⟩
  rintro d r rfl
  refine ⟨by rintro rfl; rfl, by rintro rfl; rfl, by rintro rfl; rfl, ?_, ?_⟩
  · rintro rfl
    match r with
    | [] => rfl
    | [_] => rfl
    | _ :: _ :: _ => rfl
  · intro h1 h2 h3 h4
    unfold speltP
    dsimp only
    rw [if_neg (by decide), if_pos rfl]
    split <;> first | rfl | (rename_i e; injection e with e; contradiction)
end Go.Proofs.YtdoojooepkdlhaaDoor.W
