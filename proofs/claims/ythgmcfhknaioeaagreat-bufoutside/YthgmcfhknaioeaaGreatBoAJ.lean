import Derived.Test.YthgmcfhknaioeaaGreatB9rJ
import Derived.Test.YthgmcfhknaioeaaGreatBase12
/- BufOutside: a buffer of each kind, blank and with a one in it. -/
namespace Go.Proofs.YthgmcfhknaioeaaGreat.W
open Go.ChangeShapes Go.WideShapes Go.RowKit Go.Shelf
set_option linter.unusedVariables false
/-- what is stored: the whole number one -/
def oneN : Nat := 18444773748872577025
theorem oneN_w : ((oneN : Nat) : Int) = intW 1 := by decide
/-- what the elements of the one cell load as -/
def Loads (n : Nat) (c : Hc) (f : Nat → Int) : Prop := ∀ (W0 W : World) (hb : Nat) (K : Nat → Prop) (i : Nat), i < n → Hf W0 W hb [some c] 500 K → Calls Tryz.prog 16 #[.pointer (some ⟨hb, 0, none⟩), .int .u64 (hw 0 : Nat), .int .i64 i] W fun e w' => e = .returned (.tuple #[.int .u64 (f i), .int .i64 0]) ∧ Below W.heap.size W w'
/-- what the cell is behind Store -/
def Stores (n : Nat) (c : Hc) (d : Nat → Hc) : Prop := ∀ (W0 W : World) (hb : Nat) (K : Nat → Prop) (i : Nat), i < n → Hf W0 W hb [some c] 500 K → Calls Tryz.prog 15 #[.pointer (some ⟨hb, 0, none⟩), .int .u64 (hw 0 : Nat), .int .i64 i, .int .u64 (oneN : Nat)] W fun e w' => e = .returned (.int .i64 0) ∧ Hf W0 w' hb [some (d i)] 500 K
/-- a kind's ways: blank elements load as z; behind a store the one loads as o -/
def Ways (k : Int) (n : Nat) (z o : Int) : Prop := ∃ d : Nat → Hc, Loads n (blankH k n) (fun _ => z) ∧ Stores n (blankH k n) d ∧ ∀ i, i < n → (isTh (d i) ∧ (d i).cnt = n) ∧ Loads n (d i) (fun j => if j = i then o else z)
theorem one_hit (c : Hc) : hit [some c] (hw 0) = some 0 := hit_hw (by decide) (show [some c][0]? = some (some c) from rfl)
theorem one_spot (k : Int) (bs : List Nat) : Spot [some (.buf k bs)] (hw 0) k 0 0 bs.length k bs := ⟨hw_lt 0 (by decide), rfl, by omega, 0, one_hit _, .inl ⟨rfl, rfl, rfl, rfl, rfl⟩⟩
theorem seg_rep (m a w : Nat) (h : a + w ≤ m) : seg (List.replicate m 0) a w = List.replicate w 0 := by
  unfold seg
  rw [List.drop_replicate, List.take_replicate, Nat.min_eq_left (by omega)]
theorem end_le {n i wd : Nat} (h : i < n) : i * wd + wd ≤ n * wd := by
  have := Nat.mul_le_mul_right wd (show i + 1 ≤ n from h)
  rw [Nat.add_mul, Nat.one_mul] at this
  exact this
theorem leN_rep (w : Nat) : leN (List.replicate w 0) = 0 := by
  induction w with
  | zero => rfl
  | succ w ih => rw [List.replicate_succ', leN_snoc, ih]; omega
theorem el_blank {n i wd : Nat} (h : i < n) : leN (seg (List.replicate (n * wd) 0) (0 + i * wd) wd) = 0 := by
  rw [Nat.zero_add, seg_rep _ _ _ (end_le h), leN_rep]
theorem el_saved {n i j wd x : Nat} (hi : i < n) (hj : j < n) (hx : leN (saved (List.replicate wd 0) 0 x wd) = x) : leN (seg (saved (List.replicate (n * wd) 0) (0 + i * wd) x wd) (0 + j * wd) wd) = if j = i then x else 0 := by
  have e1 := end_le (wd := wd) hi
  have e2 := end_le (wd := wd) hj
  by_cases c : j = i
  · subst c
    rw [if_pos rfl, Nat.zero_add]
    have := seg_saved_in (List.replicate (n * wd) 0) (j * wd) wd 0 x wd (by omega) (by rw [List.length_replicate]; exact e1)
    rw [Nat.add_zero] at this
    rw [this, seg_rep _ _ _ e1, hx]
  · rw [if_neg c]
    have o : j * wd + wd ≤ 0 + i * wd ∨ 0 + i * wd + wd ≤ j * wd := by
      rcases Nat.lt_or_gt_of_ne c with h | h
      · exact .inl (by have := end_le (wd := wd) h; omega)
      · exact .inr (by have := end_le (wd := wd) h; omega)
    rw [Nat.zero_add, Nat.zero_add] at *
    rw [seg_saved_out _ _ _ _ _ _ (by rw [List.length_replicate]; exact e1) o, seg_rep _ _ _ e2, leN_rep]
theorem one_small : smallB 1 = true := by decide
set_option maxRecDepth 100000 in
theorem ways_octets (n : Nat) : Ways 8 n (intW 0) (intW 1) := by
  have eb : blankH 8 n = .buf 8 (List.replicate (n * 1) 0) := rfl
  have ld : ∀ (bs : List Nat) (f : Nat → Nat), bs.length = n * 1 → (∀ i, i < n → leN (seg bs (0 + i * 1) 1) = f i) → ∀ (g : Nat → Int), (∀ i, i < n → elI 8 (f i) = g i) → Loads n (.buf 8 bs) g := by
    intro bs f hl hf g hg W0 W hb K i hi q
    obtain ⟨sb, vc, T, l⟩ := q.lay
    have e1 := end_le (wd := 1) hi
    have := load_octets l (one_spot 8 bs) i (by rw [hl]; exact e1) (by decide)
    rw [hf i hi, hg i hi] at this
    exact this
  refine ⟨fun i => .buf 8 (saved (List.replicate (n * 1) 0) (0 + i * 1) 1 1), ?_, ?_, ?_⟩
  · rw [eb]
    exact ld _ (fun _ => 0) List.length_replicate (fun i hi => el_blank hi) _ (fun i hi => by decide +kernel)
  · rw [eb]
    intro W0 W hb K i hi q
    have e1 := end_le (wd := 1) hi
    refine (hf_calls (v := .int .i64 0) (H' := [some (.buf 8 (List.replicate (n * 1) 0))].set 0 (some (.buf 8 (saved (List.replicate (n * 1) 0) (0 + i * 1) 1 1)))) q (sumH_same (one_spot 8 _).cell (buf_need _ _ _ _ (saved_len _ _ _ _))) (fun sb vc T l => ?_)).mono ?_
    rotate_left
    · rintro e w' ⟨rfl, h1, h2⟩
      exact ⟨rfl, h1⟩
    · rw [oneN_w]
      exact store_oct l (one_spot 8 _) i (by rw [List.length_replicate]; exact e1) 1 (by decide)
  · intro i hi
    refine ⟨⟨trivial, ?_⟩, ld _ (fun j => if j = i then 1 else 0) (by rw [saved_len, List.length_replicate]) (fun j hj => el_saved hi hj (by decide)) _ (fun j hj => ?_)⟩
    · show (saved _ _ _ _).length / 1 = n
      rw [saved_len, List.length_replicate, Nat.mul_div_cancel _ (by decide)]
    · by_cases c : j = i
      · subst c; simp only [if_pos]; decide +kernel
      · simp only [if_neg c]; decide +kernel
end Go.Proofs.YthgmcfhknaioeaaGreat.W
