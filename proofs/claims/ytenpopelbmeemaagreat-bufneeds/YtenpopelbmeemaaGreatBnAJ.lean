import Derived.Test.YtenpopelbmeemaaGreatBase34
/- BufNeeds: in plain numbers; a heap of one thing. -/
namespace Go.Proofs.YtenpopelbmeemaaGreat.W
open Go.ChangeShapes Go.WideShapes Go.RowKit Go.Shelf
set_option linter.unusedVariables false
theorem bn_ar1 (E u : Nat) (hE : E = 1 ∨ E = 2 ∨ E = 4 ∨ E = 8) (hu : u ≤ 2000) : IntKind.i64.wrap (8 * (u : Int)) = ((8 * u : Nat) : Int) ∧ wrap64 (8 * (u : Int)) = ((8 * u : Nat) : Int) ∧ IntKind.i64.wrap ((8 * u : Nat) : Int) = ((8 * u : Nat) : Int) ∧ Int.tdiv ((8 * u : Nat) : Int) (E : Int) = ((8 * u / E : Nat) : Int) ∧ wrap64 ((8 * u / E : Nat) : Int) = ((8 * u / E : Nat) : Int) ∧ IntKind.i64.wrap ((8 * u / E : Nat) : Int) = ((8 * u / E : Nat) : Int) := by
  have h1 : 8 * u / E ≤ 16000 := by have := Nat.div_le_self (8 * u) E; omega
  refine ⟨?_, ?_, ?_, ?_, ?_, ?_⟩
  · rw [IntKind.wrap_i64]; omega
  · unfold wrap64; omega
  · rw [IntKind.wrap_i64]; omega
  · rw [Int.tdiv_eq_ediv_of_nonneg (Int.natCast_nonneg _)]; exact (Int.natCast_ediv _ E).symm
  · generalize 8 * u / E = a at *
    unfold wrap64; omega
  · generalize 8 * u / E = a at *
    rw [IntKind.wrap_i64]; omega
theorem bn_ar2 (E u n : Nat) (hE : E = 1 ∨ E = 2 ∨ E = 4 ∨ E = 8) (hu : u ≤ 2000) (hn : n ≤ 8 * u / E) : n * E ≤ 16000 := by
  rcases hE with rfl | rfl | rfl | rfl <;> omega
theorem bn_ar3 (N n E : Nat) (hN : n * E = N) (h : N ≤ 16000) : IntKind.i64.wrap ((n : Int) * (E : Int)) = (N : Int) ∧ wrap64 ((n : Int) * (E : Int)) = (N : Int) ∧ IntKind.i64.wrap ((N : Int) + 7) = (N : Int) + 7 ∧ wrap64 ((N : Int) + 7) = (N : Int) + 7 ∧ Int.tdiv ((N : Int) + 7) 8 = (((N + 7) / 8 : Nat) : Int) ∧ wrap64 (((N + 7) / 8 : Nat) : Int) = (((N + 7) / 8 : Nat) : Int) ∧ IntKind.i64.wrap (((N + 7) / 8 : Nat) : Int) = (((N + 7) / 8 : Nat) : Int) ∧ IntKind.i64.wrap (1 + (((N + 7) / 8 : Nat) : Int)) = ((1 + (N + 7) / 8 : Nat) : Int) ∧ wrap64 (1 + (((N + 7) / 8 : Nat) : Int)) = ((1 + (N + 7) / 8 : Nat) : Int) := by
  have h2 : ((N : Nat) : Int) = (n : Int) * (E : Int) := by rw [← hN]; simp
  refine ⟨?_, ?_, ?_, ?_, ?_, ?_, ?_, ?_, ?_⟩
  · rw [← h2, IntKind.wrap_i64]; omega
  · rw [← h2]; unfold wrap64; omega
  · rw [IntKind.wrap_i64]; omega
  · unfold wrap64; omega
  · rw [Int.tdiv_eq_ediv_of_nonneg (by omega)]; omega
  · unfold wrap64; omega
  · rw [IntKind.wrap_i64]; omega
  · rw [IntKind.wrap_i64]; omega
  · unfold wrap64; omega
theorem bn_most1 (u n : Nat) {k : Int} (hk : thK k) (h : ¬ n ≤ 8 * u / elT k) : (n : Int) > mostE u k := by
  unfold mostE
  rcases elT_cases hk with e | e | e | e <;> rw [e] at h ⊢ <;> omega
theorem bn_most2 (u n : Nat) {k : Int} (hk : thK k) (h : u < 1 + (n * elT k + 7) / 8) : (n : Int) > mostE u k := by
  unfold mostE
  rcases elT_cases hk with e | e | e | e <;> rw [e] at h ⊢ <;> omega
theorem blank_th (k : Int) (n : Nat) : isTh (blankH k n) := by unfold blankH; split <;> exact trivial
theorem blank_cnt {k : Int} (hk : thK k) (n : Nat) : (blankH k n).cnt = n := by
  unfold blankH
  by_cases h : k = 9
  · rw [if_pos h]; show (List.replicate n nilN).length = n; rw [List.length_replicate]
  · rw [if_neg h]
    have : elB k > 0 := by rcases hk with e | e; exact absurd e h; exact e
    show (List.replicate (n * elB k) 0).length / elB k = n
    rw [List.length_replicate, Nat.mul_div_cancel _ this]
theorem one_rch (c : Hc) : ∀ i d, [some c][i]? = some (some d) → Rch [some c] [hw 0] i := by
  intro i d h
  have : i < 1 := (List.getElem?_eq_some_iff.1 h).1
  obtain rfl : i = 0 := by omega
  exact .root (hw 0) 0 (by simp) (hit_hw (by decide) (show [some c][0]? = some (some c) from rfl))
theorem one_reach (c : Hc) : reachN [some c] [hw 0] = c.need := by
  rw [reach_all (one_rch c)]
  show c.need + 0 = c.need
  rfl
theorem bn_pack {W0 W1 : World} {hb u : Nat} {K : Nat → Prop} (q1 : Hf W0 W1 hb [] u K) (k : Int) (hk : thK k) (n ND : Nat) (hnd : 1 + (n * elT k + 7) / 8 = ND) (hfit : ND ≤ u) : ∃ b0 : Nat,
    (Calls Tryz.prog 8 #[.pointer (some ⟨hb, 0, none⟩), .int .i64 k, .int .i64 n, .slice none 0 0] W1 fun e w' => e = .returned (.tuple #[.int .u64 (b0 : Nat), .int .i64 0]) ∧ Hf W0 w' hb [some (blankH k n)] u K) ∧
    (∀ W2, Hf W0 W2 hb [some (blankH k n)] u K → Calls Tryz.prog 17 #[.pointer (some ⟨hb, 0, none⟩), .int .u64 (b0 : Nat)] W2 fun e w' => e = .returned (.tuple #[.int .i64 (n : Nat), .int .i64 0]) ∧ Below W2.heap.size W2 w') ∧
    (∀ W3, Hf W0 W3 hb [some (blankH k n)] u K → Calls Tryz.prog 19 #[.pointer (some ⟨hb, 0, none⟩), .slice (some ⟨W3.heap.size, 0, none⟩) 1 1] (W3.alloc (.cells #[.int .u64 (b0 : Nat)] 22)) fun e w' => e = .returned (.int .i64 (ND : Nat)) ∧ Below (W3.alloc (.cells #[.int .u64 (b0 : Nat)] 22)).heap.size (W3.alloc (.cells #[.int .u64 (b0 : Nat)] 22)) w') := by
  have hneed : (blankH k n).need = ND := by rw [blank_need hk n]; exact hnd
  refine ⟨hw 0, ?_, ?_, ?_⟩
  · refine (bnew_c q1 k hk n (by rw [hneed]; show 0 + ND ≤ u; omega) (.slice none 0 0) [] (words_nil W1 _ _)).mono ?_
    rintro e w' ⟨rfl, h1, h2⟩
    exact ⟨rfl, h1⟩
  · intro W2 q2
    obtain ⟨sb, vc, T, l⟩ := q2.lay
    have := blen_c l (hw 0) (hw_lt 0 (by decide)) 0 (hit_hw (by decide) (show [some (blankH k n)][0]? = _ from rfl)) _ rfl (blank_th k n)
    rw [blank_cnt hk n] at this
    exact this
  · intro W3 q3
    have := hf_reach (q3.below' ((Below.refl _ W3).alloc (Nat.le_refl _) (.cells #[.int .u64 (hw 0 : Nat)] 22))) (.slice (some ⟨W3.heap.size, 0, none⟩) 1 1) [hw 0] (words_new W3 [hw 0] _ (by intro x hx; rw [List.mem_singleton.1 hx]; exact hw_lt 0 (by decide)) (by simp) rfl 22)
    rw [one_reach, hneed] at this
    exact this
theorem bn_wn {n N E : Nat} (hE : E = 1 ∨ E = 2 ∨ E = 4 ∨ E = 8) (hNN : n * E = N) (hN : N ≤ 16000) : IntKind.i64.wrap (n : Int) = (n : Int) := by
  have : n ≤ 16000 := by rcases hE with h | h | h | h <;> rw [h] at hNN <;> omega
  rw [IntKind.wrap_i64]; omega
theorem bn_ngd {a b : Nat} (h : a ≤ b) : decide ((b : Int) < ((a : Nat) : Int)) = false := by simp; omega
theorem bn_gt {a b : Nat} (h : a < b) : ((b : Nat) : Int) > (a : Int) := by omega
theorem bn_ngt {a b : Nat} (h : a ≤ b) : ¬ ((a : Nat) : Int) > (b : Int) := by omega
end Go.Proofs.YtenpopelbmeemaaGreat.W
