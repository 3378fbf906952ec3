import Derived.Test.YtenpopelbmeemaaGreatBrBJ
import Derived.Test.YtenpopelbmeemaaGreatCellOpenJ
/- BufRounds: the walk. -/
namespace Go.Proofs.YtenpopelbmeemaaGreat.W
open Go.ChangeShapes Go.WideShapes Go.RowKit Go.Shelf
set_option linter.unusedVariables false
set_option linter.unusedSimpArgs false
theorem cell_updC {W0 W W' : World} {K : Nat → Prop} {n i : Nat} {v : Value} (hU : Upd (Ch W0 K) W W') (hk : K n) (h : W.cell? ⟨n, i, none⟩ = some v) : W'.cell? ⟨n, i, none⟩ = some v := by
  have hl : n < W.heap.size := by
    by_cases c : n < W.heap.size
    · exact c
    · rw [World.cell?] at h
      simp [Array.getElem?_eq_none (Nat.le_of_not_lt c)] at h
  rw [← h]
  exact World.cell?_of_block (hU.block n hl (fun c => c.1 hk))
theorem cell_keepC {W W' : World} {n i : Nat} {v : Value} (hB : Below W.heap.size W W') (h : W.cell? ⟨n, i, none⟩ = some v) : W'.cell? ⟨n, i, none⟩ = some v := by
  have hl : n < W.heap.size := by
    by_cases c : n < W.heap.size
    · exact c
    · rw [World.cell?] at h
      simp [Array.getElem?_eq_none (Nat.le_of_not_lt c)] at h
  rw [hB.cell (p := ⟨n, i, none⟩) hl]; exact h
theorem sumH_nil' : sumH [] = 0 := rfl
theorem bnew_b {W0 W : World} {hb : Nat} {H : List (Option Hc)} {u : Nat} {K : Nat → Prop} (q : Hf W0 W hb H u K) (k : Int) (hk : elB k > 0) (n : Nat) (hf : sumH H + (blankH k n).need ≤ u) (vr : Value) (rs : List Nat) (hr : WordsAt W vr rs) (b : Hc) (hb' : blankH k n = b) (id : Nat) (H' : List (Option Hc)) (hi : lid H = id) (hp : putH H id (some b) = H') :
    Calls Tryz.prog 8 #[.pointer (some ⟨hb, 0, none⟩), .int .i64 k, .int .i64 n, vr] W fun e w' => e = .returned (.tuple #[.int .u64 (hw id : Nat), .int .i64 0]) ∧ Hf W0 w' hb H' u K ∧ Upd (Ch W0 K) W w' := by
  have := bnew_c q k (.inr hk) n hf vr rs hr
  rw [hb', hi, hp] at this
  exact this
theorem br_cases (i : Int) : (shortR i = false ∧ octR i = false ∧ ¬ i ≥ -32768 ∧ ¬ i ≥ 0) ∨ (shortR i = true ∧ octR i = false ∧ (i ≥ -32768 ∧ i ≤ 32767) ∧ ¬ i ≥ 0) ∨ (shortR i = true ∧ octR i = true ∧ (i ≥ -32768 ∧ i ≤ 32767) ∧ i ≥ 0 ∧ i ≤ 255) ∨ (shortR i = true ∧ octR i = false ∧ (i ≥ -32768 ∧ i ≤ 32767) ∧ i ≥ 0 ∧ ¬ i ≤ 255) ∨ (shortR i = false ∧ octR i = false ∧ (i ≥ -32768 ∧ ¬ i ≤ 32767) ∧ i ≥ 0 ∧ ¬ i ≤ 255) := by
  unfold shortR octR
  simp only [decide_eq_false_iff_not, decide_eq_true_eq]
  omega
theorem small_short (i : Int) (h : shortR i = true) : smallB i = true := by
  have hj : -32768 ≤ i ∧ i ≤ 32767 := of_decide_eq_true h
  unfold smallB
  rw [decide_eq_true_eq]
  omega
section
variable {W0 W W' : World} {hb u y k : Nat} {K : Nat → Prop} {a b c d : List Nat} {i : Int}
theorem f_st2y (h : shortR i = true) (s : S9 W0 hb u K a b c d y i W) (hl : k * 2 + 2 ≤ c.length) : Calls Tryz.prog 10 #[.pointer (some ⟨hb, 0, none⟩), .int .u64 (hw 2 : Nat), .int .i64 k, .int .u64 (y : Nat)] W fun e w' => e = .returned (.int .i64 0) ∧ S9 W0 hb u K a b (saved c (0 + k * 2) (i % 18446744073709551616).toNat 2) d y i w' ∧ Upd (Ch W0 K) W w' := by
  have := f_st2 s hl
  rw [h] at this
  exact this
theorem f_st2n (h : shortR i = false) (s : S9 W0 hb u K a b c d y i W) (hl : k * 2 + 2 ≤ c.length) : Calls Tryz.prog 10 #[.pointer (some ⟨hb, 0, none⟩), .int .u64 (hw 2 : Nat), .int .i64 k, .int .u64 (y : Nat)] W fun e w' => e = .returned (.int .i64 13) ∧ S9 W0 hb u K a b c d y i w' ∧ Upd (Ch W0 K) W w' := by
  have := f_st2 s hl
  rw [h] at this
  exact this
def octD (f : Bool) (n k v : Nat) : List Nat := if f = true then saved (List.replicate (n * 1) 0) (0 + k * 1) v 1 else List.replicate (n * 1) 0
theorem f_ld3d (n m v : Nat) (hm : m < n) (hk : k < n) (f : Bool) (s : S9 W0 hb u K a b c (octD f n k v) y i W) : Calls Tryz.prog 11 #[.pointer (some ⟨hb, 0, none⟩), .int .u64 (hw 3 : Nat), .int .i64 m] W fun e w' => ∃ z : Int, e = .returned (.tuple #[.int .u64 z, .int .i64 0]) ∧ (¬ m = k → z = 18444773748872577024) ∧ Below W.heap.size W w' := f_ld3 n m v hm hk f s
theorem f_st3y (n : Nat) (h : octR i = true) (s : S9 W0 hb u K a b c (List.replicate (n * 1) 0) y i W) (hl : k * 1 + 1 ≤ (List.replicate (n * 1) 0).length) : Calls Tryz.prog 10 #[.pointer (some ⟨hb, 0, none⟩), .int .u64 (hw 3 : Nat), .int .i64 k, .int .u64 (y : Nat)] W fun e w' => e = .returned (.int .i64 0) ∧ S9 W0 hb u K a b c (octD true n k (i % 18446744073709551616).toNat) y i w' ∧ Upd (Ch W0 K) W w' := by
  have := f_st3 s hl
  rw [h] at this
  exact this
theorem f_st3n (n : Nat) (h : octR i = false) (s : S9 W0 hb u K a b c (List.replicate (n * 1) 0) y i W) (hl : k * 1 + 1 ≤ (List.replicate (n * 1) 0).length) : Calls Tryz.prog 10 #[.pointer (some ⟨hb, 0, none⟩), .int .u64 (hw 3 : Nat), .int .i64 k, .int .u64 (y : Nat)] W fun e w' => e = .returned (.int .i64 13) ∧ S9 W0 hb u K a b c (octD false n k (i % 18446744073709551616).toNat) y i w' ∧ Upd (Ch W0 K) W w' := by
  have := f_st3 s hl
  rw [h] at this
  exact this
end
set_option maxRecDepth 100000 in
set_option maxHeartbeats 4000000 in
theorem rounds_core (bits i : Int) (n k : Nat) (hb0 : 0 ≤ bits) (hb1 : bits < 18446744073709551616) (hi0 : -9223372036854775808 ≤ i) (hi1 : i ≤ 9223372036854775807) (hn1 : 1 ≤ n) (hn : n ≤ 50) (hk : k < n) (W : World) : Calls Tryz.prog 3 #[.int .u64 bits, .int .i64 i, .int .i64 n, .int .i64 k] W fun e w' => e = .returned (.bool true) ∧ Below W.heap.size W w' := by
  have cn := hf_new (Below.refl W.heap.size W) 1000 (by decide)
  rw [show ((1000 : Nat) : Int) = 1000 from rfl] at cn
  have g1 : ¬ (n : Int) < 1 := by omega
  have g2 : ¬ (n : Int) > 50 := by omega
  have g3 : ¬ (k : Int) < 0 := by omega
  have g4 : ¬ (k : Int) ≥ n := by omega
  have NB := hid (And.intro hn1 (And.intro hn hk))
  have RG := hid (And.intro (And.intro hb0 hb1) (And.intro hi0 hi1))
  have hne := four_need n hn
  obtain ⟨b5, h5⟩ : ∃ b, blankH 5 n = b := ⟨_, rfl⟩
  obtain ⟨b6, h6⟩ : ∃ b, blankH 6 n = b := ⟨_, rfl⟩
  obtain ⟨b7, h7⟩ : ∃ b, blankH 7 n = b := ⟨_, rfl⟩
  obtain ⟨b8, h8⟩ : ∃ b, blankH 8 n = b := ⟨_, rfl⟩
  rw [h5, h6, h7, h8] at hne
  have N0 : Hid (∀ (W1 : World) (hb : Nat) (K : Nat → Prop) (vr : Value) (rs : List Nat), Hf W W1 hb [] 1000 K → WordsAt W1 vr rs → Calls Tryz.prog 8 #[.pointer (some ⟨hb, 0, none⟩), .int .i64 5, .int .i64 n, vr] W1 fun e w' => e = .returned (.tuple #[.int .u64 (hw 0 : Nat), .int .i64 0]) ∧ Hf W w' hb [some b5] 1000 K ∧ Upd (Ch W K) W1 w') := hid (fun W1 hb K vr rs q hr => bnew_b q 5 (by decide) n (by rw [h5]; simp only [sumH_cons, sumH_nil', needO]; omega) vr rs hr _ h5 0 _ rfl rfl)
  have N1 : Hid (∀ (W1 : World) (hb : Nat) (K : Nat → Prop) (vr : Value) (rs : List Nat), Hf W W1 hb [some b5] 1000 K → WordsAt W1 vr rs → Calls Tryz.prog 8 #[.pointer (some ⟨hb, 0, none⟩), .int .i64 6, .int .i64 n, vr] W1 fun e w' => e = .returned (.tuple #[.int .u64 (hw 1 : Nat), .int .i64 0]) ∧ Hf W w' hb [some b5, some b6] 1000 K ∧ Upd (Ch W K) W1 w') := hid (fun W1 hb K vr rs q hr => bnew_b q 6 (by decide) n (by rw [h6]; simp only [sumH_cons, sumH_nil', needO]; omega) vr rs hr _ h6 1 _ rfl rfl)
  have N2 : Hid (∀ (W1 : World) (hb : Nat) (K : Nat → Prop) (vr : Value) (rs : List Nat), Hf W W1 hb [some b5, some b6] 1000 K → WordsAt W1 vr rs → Calls Tryz.prog 8 #[.pointer (some ⟨hb, 0, none⟩), .int .i64 7, .int .i64 n, vr] W1 fun e w' => e = .returned (.tuple #[.int .u64 (hw 2 : Nat), .int .i64 0]) ∧ Hf W w' hb [some b5, some b6, some b7] 1000 K ∧ Upd (Ch W K) W1 w') := hid (fun W1 hb K vr rs q hr => bnew_b q 7 (by decide) n (by rw [h7]; simp only [sumH_cons, sumH_nil', needO]; omega) vr rs hr _ h7 2 _ rfl rfl)
  have N3 : Hid (∀ (W1 : World) (hb : Nat) (K : Nat → Prop) (vr : Value) (rs : List Nat), Hf W W1 hb [some b5, some b6, some b7] 1000 K → WordsAt W1 vr rs → Calls Tryz.prog 8 #[.pointer (some ⟨hb, 0, none⟩), .int .i64 8, .int .i64 n, vr] W1 fun e w' => e = .returned (.tuple #[.int .u64 (hw 3 : Nat), .int .i64 0]) ∧ Hf W w' hb [some b5, some b6, some b7, some b8] 1000 K ∧ Upd (Ch W K) W1 w') := hid (fun W1 hb K vr rs q hr => bnew_b q 8 (by decide) n (by rw [h8]; simp only [sumH_cons, sumH_nil', needO]; omega) vr rs hr _ h8 3 _ rfl rfl)
  have HB := hid (And.intro h5 (And.intro h6 (And.intro h7 (And.intro h8 hne))))
  clear hn1 hn hk hb0 hb1 hi0 hi1 h5 h6 h7 h8 hne
  go_enter Tryz.func3, Tryz.ntmps3
  go_upto_region 7 with (go_at_call 7; (with_reducible refine cn.mono ?_); rintro e W1 ⟨hb, rfl, q1, hB1⟩; clear cn)
  go_wp2
  have bA : Below W1.heap.size W1 (W1.alloc (.cells #[.int .i64 5, .int .i64 6, .int .i64 7, .int .i64 8] 3)) := (Below.refl _ W1).alloc (Nat.le_refl _) _
  have q2 := q1.below bA
  have fa0 : (W1.alloc (.cells #[.int .i64 5, .int .i64 6, .int .i64 7, .int .i64 8] 3)).heap[W1.heap.size]? = some (.cells #[.int .i64 5, .int .i64 6, .int .i64 7, .int .i64 8] 3) := World.alloc_heap_new W1 (.cells #[.int .i64 5, .int .i64 6, .int .i64 7, .int .i64 8] 3)
  obtain ⟨K0, hK0⟩ : ∃ K', K' = (fun k => k < W.heap.size ∨ (W1.heap.size ≤ k ∧ k < (W1.alloc (.cells #[.int .i64 5, .int .i64 6, .int .i64 7, .int .i64 8] 3)).heap.size)) := ⟨_, rfl⟩
  have kl0 : Hid (K0 W1.heap.size) := hid (by rw [hK0]; exact .inr ⟨Nat.le_refl _, by rw [World.size_alloc]; omega⟩)
  rw [← hK0] at q2
  have oa0 := mine_nil W (W1.alloc (.cells #[.int .i64 5, .int .i64 6, .int .i64 7, .int .i64 8] 3)) K0
  have qa0 := q2
  clear q1 hB1 bA hK0 q2
  refine wp_loop_rounds 5 ?_
  generalize W1.heap.size = lb at *
  generalize W1.alloc (.cells #[.int .i64 5, .int .i64 6, .int .i64 7, .int .i64 8] 3) = Wa0 at *
  rw [rounds_succ]
  have el0 := fun j => cell_of_row Wa0 lb j _ _ _ fa0
  have ek0 : Wa0.cell? ⟨lb, 0, none⟩ = some (.int .i64 5) := el0 0
  go_upto_region 10 with fail
  clear el0 ek0
  obtain ⟨vc0, Wc0, hrun0, hwc0, bc0⟩ := copy_run (W1 := Wa0) 27 (.slice none 0 0) [] (show WordsAt Wa0 (.slice none 0 0) [] from oa0.words) (by simp)
  have cb0 := N0.out Wc0 hb _ vc0 _ (qa0.below' bc0) hwc0
  obtain ⟨ow0, cw0, hvc0, -⟩ := id hwc0
  have fc0 := cell_keepB bc0 fa0
  have oc0 := oa0.below bc0
  subst hvc0
  simp only [List.length_nil, List.length_cons, Nat.zero_add, Nat.reduceAdd] at cb0 hrun0
  clear N0
  go_upto_region 11 with (first | (at_builtin; refine Lib.wpList_append_run _ rfl (.tmp 69) (.tmp 70) 27 27 rfl _ _ (by simp [Act.eval]) (by simp [Act.eval]) _ _ hrun0 ?_) | (go_at_call 8; (with_reducible refine cb0.mono ?_); rintro e Wd0 ⟨rfl, qd0, ud0⟩; clear cb0))
  have fd0 := cell_updB ud0 kl0.out fc0
  have od0 := oc0.upd ud0
  clear hrun0 hwc0 bc0 fc0 oc0 fa0 oa0 qa0 ud0
  obtain ⟨vn0, Wa1, hrg0, qg0, og0, ug0⟩ := mine_append qd0 27 _ _ od0 (hw 0) (hw_lt _ (by decide)) (by simp)
  have fa1 : Wa1.heap[lb]? = some (.cells #[.int .i64 5, .int .i64 6, .int .i64 7, .int .i64 8] 3) := (ug0.block lb (lt_get fd0) (fun e => own_ne (owns_base od0.row (b' := 0) (fun _ _ => Nat.zero_le _)) fd0 (by decide) e.symm)).trans fd0
  obtain ⟨ov1, cv1, hvn0⟩ := slice_of (owns_base og0.row (b' := 0) (fun _ _ => Nat.zero_le _))
  subst hvn0
  obtain ⟨K1, hK1⟩ : ∃ K', K' = (fun k => K0 k ∨ (Wd0.heap.size ≤ k ∧ k < Wa1.heap.size)) := ⟨_, rfl⟩
  rw [← hK1] at qg0 og0
  have kl1 : Hid (K1 lb) := hid (by rw [hK1]; exact .inl kl0.out)
  have qa1 : Hf W Wa1 hb [some b5] 1000 K1 := qg0
  have oa1 : Mine W Wa1 K1 (.slice ov1 1 cv1) [hw 0] := og0
  have hrg0' : (Builtin.append_ #[27, 27] 27 #[(.slice none 0 0), .slice (some ⟨Wd0.heap.size, 0, none⟩) 1 1]).run Tryz.prog (Wd0.alloc (.cells #[.int .u64 ((hw 0 : Nat) : Int)] 22)) = .ok (.slice ov1 1 cv1) Wa1 := hrg0
  clear hrg0 qd0 od0 fd0 ug0 og0 qg0 hK1 kl0
  go_wp2_with (at_builtin; refine Lib.wpList_append_run _ rfl (.tmp 77) (.tmp 79) 27 27 rfl _ _ (by simp [Act.eval]) (by simp [Act.eval]) _ _ hrg0' ?_)
  clear hrg0'
  rw [rounds_succ]
  have el1 := fun j => cell_of_row Wa1 lb j _ _ _ fa1
  have ek1 : Wa1.cell? ⟨lb, 1, none⟩ = some (.int .i64 6) := el1 1
  go_upto_region 10 with fail
  clear el1 ek1
  obtain ⟨vc1, Wc1, hrun1, hwc1, bc1⟩ := copy_run (W1 := Wa1) 27 (.slice ov1 1 cv1) [hw 0] (show WordsAt Wa1 (.slice ov1 1 cv1) [hw 0] from oa1.words) (by simp)
  have cb1 := N1.out Wc1 hb _ vc1 _ (qa1.below' bc1) hwc1
  obtain ⟨ow1, cw1, hvc1, -⟩ := id hwc1
  have fc1 := cell_keepB bc1 fa1
  have oc1 := oa1.below bc1
  subst hvc1
  simp only [List.length_nil, List.length_cons, Nat.zero_add, Nat.reduceAdd] at cb1 hrun1
  clear N1
  go_upto_region 11 with (first | (at_builtin; refine Lib.wpList_append_run _ rfl (.tmp 69) (.tmp 70) 27 27 rfl _ _ (by simp [Act.eval]) (by simp [Act.eval]) _ _ hrun1 ?_) | (go_at_call 8; (with_reducible refine cb1.mono ?_); rintro e Wd1 ⟨rfl, qd1, ud1⟩; clear cb1))
  have fd1 := cell_updB ud1 kl1.out fc1
  have od1 := oc1.upd ud1
  clear hrun1 hwc1 bc1 fc1 oc1 fa1 oa1 qa1 ud1
  obtain ⟨vn1, Wa2, hrg1, qg1, og1, ug1⟩ := mine_append qd1 27 _ _ od1 (hw 1) (hw_lt _ (by decide)) (by simp)
  have fa2 : Wa2.heap[lb]? = some (.cells #[.int .i64 5, .int .i64 6, .int .i64 7, .int .i64 8] 3) := (ug1.block lb (lt_get fd1) (fun e => own_ne (owns_base od1.row (b' := 0) (fun _ _ => Nat.zero_le _)) fd1 (by decide) e.symm)).trans fd1
  obtain ⟨ov2, cv2, hvn1⟩ := slice_of (owns_base og1.row (b' := 0) (fun _ _ => Nat.zero_le _))
  subst hvn1
  obtain ⟨K2, hK2⟩ : ∃ K', K' = (fun k => K1 k ∨ (Wd1.heap.size ≤ k ∧ k < Wa2.heap.size)) := ⟨_, rfl⟩
  rw [← hK2] at qg1 og1
  have kl2 : Hid (K2 lb) := hid (by rw [hK2]; exact .inl kl1.out)
  have qa2 : Hf W Wa2 hb [some b5, some b6] 1000 K2 := qg1
  have oa2 : Mine W Wa2 K2 (.slice ov2 2 cv2) [hw 0, hw 1] := og1
  have hrg1' : (Builtin.append_ #[27, 27] 27 #[(.slice ov1 1 cv1), .slice (some ⟨Wd1.heap.size, 0, none⟩) 1 1]).run Tryz.prog (Wd1.alloc (.cells #[.int .u64 ((hw 1 : Nat) : Int)] 22)) = .ok (.slice ov2 2 cv2) Wa2 := hrg1
  clear hrg1 qd1 od1 fd1 ug1 og1 qg1 hK2 kl1
  go_wp2_with (at_builtin; refine Lib.wpList_append_run _ rfl (.tmp 77) (.tmp 79) 27 27 rfl _ _ (by simp [Act.eval]) (by simp [Act.eval]) _ _ hrg1' ?_)
  clear hrg1'
  rw [rounds_succ]
  have el2 := fun j => cell_of_row Wa2 lb j _ _ _ fa2
  have ek2 : Wa2.cell? ⟨lb, 2, none⟩ = some (.int .i64 7) := el2 2
  go_upto_region 10 with fail
  clear el2 ek2
  obtain ⟨vc2, Wc2, hrun2, hwc2, bc2⟩ := copy_run (W1 := Wa2) 27 (.slice ov2 2 cv2) [hw 0, hw 1] (show WordsAt Wa2 (.slice ov2 2 cv2) [hw 0, hw 1] from oa2.words) (by simp)
  have cb2 := N2.out Wc2 hb _ vc2 _ (qa2.below' bc2) hwc2
  obtain ⟨ow2, cw2, hvc2, -⟩ := id hwc2
  have fc2 := cell_keepB bc2 fa2
  have oc2 := oa2.below bc2
  subst hvc2
  simp only [List.length_nil, List.length_cons, Nat.zero_add, Nat.reduceAdd] at cb2 hrun2
  clear N2
  go_upto_region 11 with (first | (at_builtin; refine Lib.wpList_append_run _ rfl (.tmp 69) (.tmp 70) 27 27 rfl _ _ (by simp [Act.eval]) (by simp [Act.eval]) _ _ hrun2 ?_) | (go_at_call 8; (with_reducible refine cb2.mono ?_); rintro e Wd2 ⟨rfl, qd2, ud2⟩; clear cb2))
  have fd2 := cell_updB ud2 kl2.out fc2
  have od2 := oc2.upd ud2
  clear hrun2 hwc2 bc2 fc2 oc2 fa2 oa2 qa2 ud2
  obtain ⟨vn2, Wa3, hrg2, qg2, og2, ug2⟩ := mine_append qd2 27 _ _ od2 (hw 2) (hw_lt _ (by decide)) (by simp)
  have fa3 : Wa3.heap[lb]? = some (.cells #[.int .i64 5, .int .i64 6, .int .i64 7, .int .i64 8] 3) := (ug2.block lb (lt_get fd2) (fun e => own_ne (owns_base od2.row (b' := 0) (fun _ _ => Nat.zero_le _)) fd2 (by decide) e.symm)).trans fd2
  obtain ⟨ov3, cv3, hvn2⟩ := slice_of (owns_base og2.row (b' := 0) (fun _ _ => Nat.zero_le _))
  subst hvn2
  obtain ⟨K3, hK3⟩ : ∃ K', K' = (fun k => K2 k ∨ (Wd2.heap.size ≤ k ∧ k < Wa3.heap.size)) := ⟨_, rfl⟩
  rw [← hK3] at qg2 og2
  have kl3 : Hid (K3 lb) := hid (by rw [hK3]; exact .inl kl2.out)
  have qa3 : Hf W Wa3 hb [some b5, some b6, some b7] 1000 K3 := qg2
  have oa3 : Mine W Wa3 K3 (.slice ov3 3 cv3) [hw 0, hw 1, hw 2] := og2
  have hrg2' : (Builtin.append_ #[27, 27] 27 #[(.slice ov2 2 cv2), .slice (some ⟨Wd2.heap.size, 0, none⟩) 1 1]).run Tryz.prog (Wd2.alloc (.cells #[.int .u64 ((hw 2 : Nat) : Int)] 22)) = .ok (.slice ov3 3 cv3) Wa3 := hrg2
  clear hrg2 qd2 od2 fd2 ug2 og2 qg2 hK3 kl2
  go_wp2_with (at_builtin; refine Lib.wpList_append_run _ rfl (.tmp 77) (.tmp 79) 27 27 rfl _ _ (by simp [Act.eval]) (by simp [Act.eval]) _ _ hrg2' ?_)
  clear hrg2'
  rw [rounds_succ]
  have el3 := fun j => cell_of_row Wa3 lb j _ _ _ fa3
  have ek3 : Wa3.cell? ⟨lb, 3, none⟩ = some (.int .i64 8) := el3 3
  go_upto_region 10 with fail
  clear el3 ek3
  obtain ⟨vc3, Wc3, hrun3, hwc3, bc3⟩ := copy_run (W1 := Wa3) 27 (.slice ov3 3 cv3) [hw 0, hw 1, hw 2] (show WordsAt Wa3 (.slice ov3 3 cv3) [hw 0, hw 1, hw 2] from oa3.words) (by simp)
  have cb3 := N3.out Wc3 hb _ vc3 _ (qa3.below' bc3) hwc3
  obtain ⟨ow3, cw3, hvc3, -⟩ := id hwc3
  have fc3 := cell_keepB bc3 fa3
  have oc3 := oa3.below bc3
  subst hvc3
  simp only [List.length_nil, List.length_cons, Nat.zero_add, Nat.reduceAdd] at cb3 hrun3
  clear N3
  go_upto_region 11 with (first | (at_builtin; refine Lib.wpList_append_run _ rfl (.tmp 69) (.tmp 70) 27 27 rfl _ _ (by simp [Act.eval]) (by simp [Act.eval]) _ _ hrun3 ?_) | (go_at_call 8; (with_reducible refine cb3.mono ?_); rintro e Wd3 ⟨rfl, qd3, ud3⟩; clear cb3))
  have fd3 := cell_updB ud3 kl3.out fc3
  have od3 := oc3.upd ud3
  clear hrun3 hwc3 bc3 fc3 oc3 fa3 oa3 qa3 ud3
  obtain ⟨vn3, Wa4, hrg3, qg3, og3, ug3⟩ := mine_append qd3 27 _ _ od3 (hw 3) (hw_lt _ (by decide)) (by simp)
  have fa4 : Wa4.heap[lb]? = some (.cells #[.int .i64 5, .int .i64 6, .int .i64 7, .int .i64 8] 3) := (ug3.block lb (lt_get fd3) (fun e => own_ne (owns_base od3.row (b' := 0) (fun _ _ => Nat.zero_le _)) fd3 (by decide) e.symm)).trans fd3
  obtain ⟨ov4, cv4, hvn3⟩ := slice_of (owns_base og3.row (b' := 0) (fun _ _ => Nat.zero_le _))
  subst hvn3
  obtain ⟨K4, hK4⟩ : ∃ K', K' = (fun k => K3 k ∨ (Wd3.heap.size ≤ k ∧ k < Wa4.heap.size)) := ⟨_, rfl⟩
  rw [← hK4] at qg3 og3
  have kl4 : Hid (K4 lb) := hid (by rw [hK4]; exact .inl kl3.out)
  have qa4 : Hf W Wa4 hb [some b5, some b6, some b7, some b8] 1000 K4 := qg3
  have oa4 : Mine W Wa4 K4 (.slice ov4 4 cv4) [hw 0, hw 1, hw 2, hw 3] := og3
  have hrg3' : (Builtin.append_ #[27, 27] 27 #[(.slice ov3 3 cv3), .slice (some ⟨Wd3.heap.size, 0, none⟩) 1 1]).run Tryz.prog (Wd3.alloc (.cells #[.int .u64 ((hw 3 : Nat) : Int)] 22)) = .ok (.slice ov4 4 cv4) Wa4 := hrg3
  clear hrg3 qd3 od3 fd3 ug3 og3 qg3 hK4 kl3
  go_wp2_with (at_builtin; refine Lib.wpList_append_run _ rfl (.tmp 77) (.tmp 79) 27 27 rfl _ _ (by simp [Act.eval]) (by simp [Act.eval]) _ _ hrg3' ?_)
  clear hrg3'
  rw [rounds_succ]
  go_upto_region 15 with fail
  obtain ⟨g, cap, cur, hv, kg, fg, hcur⟩ := mine_form oa4 (by simp)
  injection hv with e1 e2 e3
  subst e1 e3
  have U0 := hid (hcur 0 _ rfl)
  have U1 := hid (hcur 1 _ rfl)
  have U2 := hid (hcur 2 _ rfl)
  have U3 := hid (hcur 3 _ rfl)
  have KG := hid kg
  have s4 : sumH [some b5, some b6, some b7, some b8] ≤ 200 := by have := HB.out.2.2.2.2; simp only [sumH_cons, sumH_nil', needO]; omega
  have cx := boxF qa4 (.slice (some ⟨g, 0, none⟩) 4 cv4) bits RG.out.1.1 RG.out.1.2
  have WD := hid oa4
  clear hcur kg e2 fa4 kl4 oa4 qa4
  go_upto_region 16 with (go_at_call 9; (with_reducible refine cx.mono ?_); rintro e Wx ⟨x, Hx, rfl, qx, hEx, hxe, hsx, hlx, -, hxl, hUx⟩; (have XE := hid hxe); clear cx hxe)
  replace fg := cell_updB hUx KG.out fg
  replace WD := hid (WD.out.upd hUx)
  have XX := hid (show x < 18446744073709551616 ∧ cls ((x : Nat) : Int) = 1 ∧ fltW ((x : Nat) : Int) = (x : Nat) from ⟨hxl, by rw [XE.out]; exact fltW_cls bits, by rw [XE.out]; exact fltW_twice bits⟩)
  have cy := boxY qx (.slice (some ⟨g, 0, none⟩) 4 cv4) _ WD.out.words i RG.out.2.1 RG.out.2.2 (by omega) (by simp at hlx; omega)
  have EX := hid hEx
  clear hsx hlx hxl hUx qx hEx s4
  go_upto_region 19 with (go_at_call 9; (with_reducible refine cy.mono ?_); rintro e Wy ⟨y, Hy, rfl, qy, hEy, ⟨hy1, hy2⟩, -, -, -, hyl, hUy⟩; clear cy)
  replace fg := cell_updB hUy KG.out fg
  have YS := hid hy2
  have hE := EX.out.trans hEy
  have Q : Hid (S9 W hb 1000 K4 (List.replicate (n * 8) 0) (List.replicate (n * 4) 0) (List.replicate (n * 2) 0) (List.replicate (n * 1) 0) y i Wy) := hid ⟨Hy, ⟨hE 0 _ (by rw [← HB.out.1]; rfl), hE 1 _ (by rw [← HB.out.2.1]; rfl), hE 2 _ (by rw [← HB.out.2.2.1]; rfl), hE 3 _ (by rw [← HB.out.2.2.2.1]; rfl), hy1⟩, qy⟩
  clear hy1 hy2 hEy hE EX WD hUy HB qy hyl
  go_upto_region 20 with fail
  have t0 : Wy.cell? ⟨g, 0, none⟩ = some (.int .u64 ((hw 0 : Nat) : Int)) := (cell_of_row Wy g 0 _ _ _ fg).trans U0.out
  have t1 : Wy.cell? ⟨g, 1, none⟩ = some (.int .u64 ((hw 1 : Nat) : Int)) := (cell_of_row Wy g 1 _ _ _ fg).trans U1.out
  have t2 : Wy.cell? ⟨g, 2, none⟩ = some (.int .u64 ((hw 2 : Nat) : Int)) := (cell_of_row Wy g 2 _ _ _ fg).trans U2.out
  have t3 : Wy.cell? ⟨g, 3, none⟩ = some (.int .u64 ((hw 3 : Nat) : Int)) := (cell_of_row Wy g 3 _ _ _ fg).trans U3.out
  have ln : ∀ w : Nat, k * w + w ≤ (List.replicate (n * w) 0).length := fun w => by rw [List.length_replicate]; exact end_le NB.out.2.2
  have LN := hid ln
  clear ln
  have s0 := f_st0 Q.out (LN.out 8) x XX.out.1 XX.out.2.1
  go_upto_region 22 with (first | (go_at_call 10; (with_reducible refine s0.mono ?_); rintro e Wp ⟨rfl, sp, up⟩; (replace t0 := cell_updC up KG.out t0); (replace t1 := cell_updC up KG.out t1); (replace t2 := cell_updC up KG.out t2); (replace t3 := cell_updC up KG.out t3); (replace fg := cell_updB up KG.out fg); (replace Q := hid sp); (have s1 := f_st1 (fun _ => True) Q.out (LN.out 4) x XX.out.1 XX.out.2.1 (narrow_any x XX.out.1)); clear s0 sp up) | (go_at_call 10; (with_reducible refine s1.mono ?_); rintro e Wp ⟨rfl, r, hr, sp, up⟩; (replace t0 := cell_updC up KG.out t0); (replace t1 := cell_updC up KG.out t1); (replace t2 := cell_updC up KG.out t2); (replace t3 := cell_updC up KG.out t3); (replace fg := cell_updB up KG.out fg); (replace Q := hid sp); (have HR := hid hr.1); (have s2 := f_st2t Q.out (LN.out 2) x XX.out.1 XX.out.2.1); clear s1 sp up hr) | (go_at_call 10; (with_reducible refine s2.mono ?_); rintro e Wp ⟨rfl, sp, up⟩; (replace t0 := cell_updC up KG.out t0); (replace t1 := cell_updC up KG.out t1); (replace t2 := cell_updC up KG.out t2); (replace t3 := cell_updC up KG.out t3); (replace fg := cell_updB up KG.out fg); (replace Q := hid sp); clear s2 sp up))
  obtain ⟨z, hz1, hz2, hz3⟩ := wide_word r HR.out
  have ZZ := hid (And.intro hz1 (And.intro hz2 hz3))
  clear hz1 hz2 hz3
  have l0 := f_ld0 x XX.out.1 XX.out.2.2 Q.out (LN.out 8)
  go_upto_region 23 with (go_at_call 11; (with_reducible refine l0.mono ?_); rintro e Wp ⟨rfl, hBk⟩; (replace t0 := cell_keepC hBk t0); (replace t1 := cell_keepC hBk t1); (replace t2 := cell_keepC hBk t2); (replace t3 := cell_keepC hBk t3); (replace fg := cell_keepB hBk fg); (replace Q := hid (Q.out.below' hBk)); clear l0 hBk)
  have l1 := f_ld1 r z HR.out ZZ.out.1 Q.out (LN.out 4)
  go_upto_region 24 with (go_at_call 11; (with_reducible refine l1.mono ?_); rintro e Wp ⟨rfl, hBk⟩; (replace t0 := cell_keepC hBk t0); (replace t1 := cell_keepC hBk t1); (replace t2 := cell_keepC hBk t2); (replace t3 := cell_keepC hBk t3); (replace fg := cell_keepB hBk fg); (replace Q := hid (Q.out.below' hBk)); clear l1 hBk)
  have cF := fun w => refFromFloat_c bits RG.out.1.1 RG.out.1.2 w
  rw [← XE.out] at cF
  have cC : ∀ w : World, Calls Tryz.prog 13 #[.int .u64 ((z : Nat) : Int)] w fun e w' => e = .returned (.int .i64 1) ∧ Below w.heap.size w w' := fun w => (refClass_c ((z : Nat) : Int) (by omega) (by have := ZZ.out.2.1; omega) w).mono (by rintro e w' ⟨rfl, m, rfl⟩; rw [ZZ.out.2.2]; exact ⟨rfl, ⟨rfl, rfl, rfl, Nat.le_refl _, fun _ _ => rfl⟩⟩)
  go_upto_region 26 with (first | (go_at_call 12; (with_reducible refine (cF _).mono ?_); rintro e w' ⟨rfl, hw⟩; (have hw' := hw.symm); subst hw'; clear hw) | (go_at_call 13; (with_reducible refine (cC _).mono ?_); rintro e Wp ⟨rfl, hBk⟩; (replace t0 := cell_keepC hBk t0); (replace t1 := cell_keepC hBk t1); (replace t2 := cell_keepC hBk t2); (replace t3 := cell_keepC hBk t3); (replace fg := cell_keepB hBk fg); (replace Q := hid (Q.out.below' hBk)); clear cC hBk))
  clear cF
  have s3 := f_st1 (fun s => Sf.wideI ((s : Nat) : Int) = (z : Nat)) Q.out (by rw [saved_len]; exact LN.out 4) z ZZ.out.2.1 ZZ.out.2.2 (narrow_again r z HR.out ZZ.out.1 ZZ.out.2.1)
  go_upto_region 28 with (go_at_call 10; (with_reducible refine s3.mono ?_); rintro e Wp ⟨rfl, r2, hr2, sp, up⟩; (replace t0 := cell_updC up KG.out t0); (replace t1 := cell_updC up KG.out t1); (replace t2 := cell_updC up KG.out t2); (replace t3 := cell_updC up KG.out t3); (replace fg := cell_updB up KG.out fg); (replace Q := hid sp); (have HR2 := hid hr2); clear s3 sp up hr2)
  have l2 := f_ld1 r2 z HR2.out.1 HR2.out.2 Q.out (by rw [saved_len]; exact LN.out 4)
  go_upto_region 29 with (go_at_call 11; (with_reducible refine l2.mono ?_); rintro e Wp ⟨rfl, hBk⟩; (replace t0 := cell_keepC hBk t0); (replace t1 := cell_keepC hBk t1); (replace t2 := cell_keepC hBk t2); (replace t3 := cell_keepC hBk t3); (replace fg := cell_keepB hBk fg); (replace Q := hid (Q.out.below' hBk)); clear l2 hBk)
  go_upto_region 31 with fail
  clear t0 t1 t2 t3
  have bD : Below Wp.heap.size Wp Wp.drew := ⟨rfl, rfl, rfl, Nat.le_refl _, fun _ _ => rfl⟩
  have QD := hid (Q.out.below' bD)
  have fgd : Wp.drew.heap[g]? = some (.cells cur 22 (0, 0)) := fg
  clear bD Q ZZ XX HR HR2 XE
  generalize saved (List.replicate (n * 8) 0) (0 + k * 8) x 8 = A1 at *
  generalize saved (saved (List.replicate (n * 4) 0) (0 + k * 4) r 4) (0 + k * 4) r2 4 = B1 at *
  rcases br_cases i with ⟨hs, ho, a1, a2⟩ | ⟨hs, ho, ⟨a1, a2⟩, a3⟩ | ⟨hs, ho, ⟨a1, a2⟩, a3, a4⟩ | ⟨hs, ho, ⟨a1, a2⟩, a3, a4⟩ | ⟨hs, ho, ⟨a1, a2⟩, a3, a4⟩
  all_goals (
    first | have s4 := f_st2y (k := k) hs QD.out (LN.out 2) | have s4 := f_st2n (k := k) hs QD.out (LN.out 2)
    refine wp_region_held_drew (S := fun w' => w'.heap[g]? = some (.cells cur 22 (0, 0))) (by kernel_rfl) fg ?_
    intro hS
    (refine wpAnyH_take (i := 0) (v := ?_) rfl (by kernel_rfl) (by kernel_rfl) (by kernel_rfl) (fun _ _ _ h => h) (Or.inl ⟨by rfl, ?_⟩) hS ?_); rotate_left; (focus (intro w' hSw; (have el2 : w'.cell? ⟨g, 2, none⟩ = some (.int .u64 ((hw 2 : Nat) : Int)) := (cell_of_row w' g 2 _ _ _ hSw).trans U2.out); (have el3 : w'.cell? ⟨g, 3, none⟩ = some (.int .u64 ((hw 3 : Nat) : Int)) := (cell_of_row w' g 3 _ _ _ hSw).trans U3.out); go_simp; (try with_reducible rfl))); (try simp only [Act.put, List.getElem_toArray, List.getElem_cons_zero, List.getElem_cons_succ, List.setIfInBounds_toArray, List.set_cons_zero, List.set_cons_succ])
    (refine wpAnyH_take (i := 1) (v := ?_) rfl (by kernel_rfl) (by kernel_rfl) (by kernel_rfl) (fun _ _ _ h => h) (Or.inl ⟨by rfl, ?_⟩) hS ?_); rotate_left; (focus (intro w' hSw; (have el2 : w'.cell? ⟨g, 2, none⟩ = some (.int .u64 ((hw 2 : Nat) : Int)) := (cell_of_row w' g 2 _ _ _ hSw).trans U2.out); (have el3 : w'.cell? ⟨g, 3, none⟩ = some (.int .u64 ((hw 3 : Nat) : Int)) := (cell_of_row w' g 3 _ _ _ hSw).trans U3.out); go_simp; (try with_reducible rfl))); (try simp only [Act.put, List.getElem_toArray, List.getElem_cons_zero, List.getElem_cons_succ, List.setIfInBounds_toArray, List.set_cons_zero, List.set_cons_succ])
    (refine wpAnyH_take (i := 2) (v := ?_) rfl (by kernel_rfl) (by kernel_rfl) (by kernel_rfl) (fun _ _ _ h => h) (Or.inl ⟨by rfl, ?_⟩) hS ?_); rotate_left; (focus (intro w' hSw; (have el2 : w'.cell? ⟨g, 2, none⟩ = some (.int .u64 ((hw 2 : Nat) : Int)) := (cell_of_row w' g 2 _ _ _ hSw).trans U2.out); (have el3 : w'.cell? ⟨g, 3, none⟩ = some (.int .u64 ((hw 3 : Nat) : Int)) := (cell_of_row w' g 3 _ _ _ hSw).trans U3.out); go_simp; (try with_reducible rfl))); (try simp only [Act.put, List.getElem_toArray, List.getElem_cons_zero, List.getElem_cons_succ, List.setIfInBounds_toArray, List.set_cons_zero, List.set_cons_succ])
    (refine wpAnyH_take (i := 3) (v := ?_) rfl (by kernel_rfl) (by kernel_rfl) (by kernel_rfl) (fun _ _ _ h => h) (Or.inl ⟨by rfl, ?_⟩) hS ?_); rotate_left; (focus (intro w' hSw; (have el2 : w'.cell? ⟨g, 2, none⟩ = some (.int .u64 ((hw 2 : Nat) : Int)) := (cell_of_row w' g 2 _ _ _ hSw).trans U2.out); (have el3 : w'.cell? ⟨g, 3, none⟩ = some (.int .u64 ((hw 3 : Nat) : Int)) := (cell_of_row w' g 3 _ _ _ hSw).trans U3.out); go_simp; (try with_reducible rfl))); (try simp only [Act.put, List.getElem_toArray, List.getElem_cons_zero, List.getElem_cons_succ, List.setIfInBounds_toArray, List.set_cons_zero, List.set_cons_succ])
    (refine wpAnyH_take (i := 4) (v := ?_) rfl (by kernel_rfl) (by kernel_rfl) (by kernel_rfl) (fun _ _ _ h => h) (Or.inl ⟨by rfl, ?_⟩) hS ?_); rotate_left; (focus (intro w' hSw; (have el2 : w'.cell? ⟨g, 2, none⟩ = some (.int .u64 ((hw 2 : Nat) : Int)) := (cell_of_row w' g 2 _ _ _ hSw).trans U2.out); (have el3 : w'.cell? ⟨g, 3, none⟩ = some (.int .u64 ((hw 3 : Nat) : Int)) := (cell_of_row w' g 3 _ _ _ hSw).trans U3.out); go_simp; (try with_reducible rfl))); (try simp only [Act.put, List.getElem_toArray, List.getElem_cons_zero, List.getElem_cons_succ, List.setIfInBounds_toArray, List.set_cons_zero, List.set_cons_succ])
    (refine wpAnyH_take (i := 5) (v := ?_) rfl (by kernel_rfl) (by kernel_rfl) (by kernel_rfl) (fun _ _ _ h => h) (Or.inl ⟨by rfl, ?_⟩) hS ?_); rotate_left; (focus (intro w' hSw; (have el2 : w'.cell? ⟨g, 2, none⟩ = some (.int .u64 ((hw 2 : Nat) : Int)) := (cell_of_row w' g 2 _ _ _ hSw).trans U2.out); (have el3 : w'.cell? ⟨g, 3, none⟩ = some (.int .u64 ((hw 3 : Nat) : Int)) := (cell_of_row w' g 3 _ _ _ hSw).trans U3.out); go_simp; (try with_reducible rfl))); (try simp only [Act.put, List.getElem_toArray, List.getElem_cons_zero, List.getElem_cons_succ, List.setIfInBounds_toArray, List.set_cons_zero, List.set_cons_succ])
    (refine wpAnyH_take (i := 7) (v := ?_) rfl (by kernel_rfl) (by kernel_rfl) (by kernel_rfl) (fun _ _ _ h => h) (Or.inl ⟨by rfl, ?_⟩) hS ?_); rotate_left; (focus (intro w' hSw; (have el2 : w'.cell? ⟨g, 2, none⟩ = some (.int .u64 ((hw 2 : Nat) : Int)) := (cell_of_row w' g 2 _ _ _ hSw).trans U2.out); (have el3 : w'.cell? ⟨g, 3, none⟩ = some (.int .u64 ((hw 3 : Nat) : Int)) := (cell_of_row w' g 3 _ _ _ hSw).trans U3.out); go_simp; (try with_reducible rfl))); (try simp only [Act.put, List.getElem_toArray, List.getElem_cons_zero, List.getElem_cons_succ, List.setIfInBounds_toArray, List.set_cons_zero, List.set_cons_succ])
    (refine wpAnyH_take (i := 8) (v := ?_) rfl (by kernel_rfl) (by kernel_rfl) (by kernel_rfl) (fun _ _ _ h => h) (Or.inl ⟨by rfl, ?_⟩) hS ?_); rotate_left; (focus (intro w' hSw; (have el2 : w'.cell? ⟨g, 2, none⟩ = some (.int .u64 ((hw 2 : Nat) : Int)) := (cell_of_row w' g 2 _ _ _ hSw).trans U2.out); (have el3 : w'.cell? ⟨g, 3, none⟩ = some (.int .u64 ((hw 3 : Nat) : Int)) := (cell_of_row w' g 3 _ _ _ hSw).trans U3.out); go_simp; (try with_reducible rfl))); (try simp only [Act.put, List.getElem_toArray, List.getElem_cons_zero, List.getElem_cons_succ, List.setIfInBounds_toArray, List.set_cons_zero, List.set_cons_succ])
    (refine wpAnyH_take (i := 9) (v := ?_) rfl (by kernel_rfl) (by kernel_rfl) (by kernel_rfl) (fun _ _ _ h => h) (Or.inl ⟨by rfl, ?_⟩) hS ?_); rotate_left; (focus (intro w' hSw; (have el2 : w'.cell? ⟨g, 2, none⟩ = some (.int .u64 ((hw 2 : Nat) : Int)) := (cell_of_row w' g 2 _ _ _ hSw).trans U2.out); (have el3 : w'.cell? ⟨g, 3, none⟩ = some (.int .u64 ((hw 3 : Nat) : Int)) := (cell_of_row w' g 3 _ _ _ hSw).trans U3.out); go_simp; (try with_reducible rfl))); (try simp only [Act.put, List.getElem_toArray, List.getElem_cons_zero, List.getElem_cons_succ, List.setIfInBounds_toArray, List.set_cons_zero, List.set_cons_succ])
    (refine wpAnyH_take (i := 10) (v := ?_) rfl (by kernel_rfl) (by kernel_rfl) (by kernel_rfl) (fun _ _ _ h => h) (Or.inl ⟨by rfl, ?_⟩) hS ?_); rotate_left; (focus (intro w' hSw; (have el2 : w'.cell? ⟨g, 2, none⟩ = some (.int .u64 ((hw 2 : Nat) : Int)) := (cell_of_row w' g 2 _ _ _ hSw).trans U2.out); (have el3 : w'.cell? ⟨g, 3, none⟩ = some (.int .u64 ((hw 3 : Nat) : Int)) := (cell_of_row w' g 3 _ _ _ hSw).trans U3.out); go_simp; (try with_reducible rfl))); (try simp only [Act.put, List.getElem_toArray, List.getElem_cons_zero, List.getElem_cons_succ, List.setIfInBounds_toArray, List.set_cons_zero, List.set_cons_succ])
    (refine wpAnyH_take (i := 11) (v := ?_) rfl (by kernel_rfl) (by kernel_rfl) (by kernel_rfl) (fun _ _ _ h => h) (Or.inl ⟨by rfl, ?_⟩) hS ?_); rotate_left; (focus (intro w' hSw; (have el2 : w'.cell? ⟨g, 2, none⟩ = some (.int .u64 ((hw 2 : Nat) : Int)) := (cell_of_row w' g 2 _ _ _ hSw).trans U2.out); (have el3 : w'.cell? ⟨g, 3, none⟩ = some (.int .u64 ((hw 3 : Nat) : Int)) := (cell_of_row w' g 3 _ _ _ hSw).trans U3.out); go_simp; (try with_reducible rfl))); (try simp only [Act.put, List.getElem_toArray, List.getElem_cons_zero, List.getElem_cons_succ, List.setIfInBounds_toArray, List.set_cons_zero, List.set_cons_succ])
    (refine wpAnyH_take (i := 12) (v := ?_) rfl (by kernel_rfl) (by kernel_rfl) (by kernel_rfl) (fun _ _ _ h => h) (Or.inl ⟨by rfl, ?_⟩) hS ?_); rotate_left; (focus (intro w' hSw; (have el2 : w'.cell? ⟨g, 2, none⟩ = some (.int .u64 ((hw 2 : Nat) : Int)) := (cell_of_row w' g 2 _ _ _ hSw).trans U2.out); (have el3 : w'.cell? ⟨g, 3, none⟩ = some (.int .u64 ((hw 3 : Nat) : Int)) := (cell_of_row w' g 3 _ _ _ hSw).trans U3.out); go_simp; (try with_reducible rfl))); (try simp only [Act.put, List.getElem_toArray, List.getElem_cons_zero, List.getElem_cons_succ, List.setIfInBounds_toArray, List.set_cons_zero, List.set_cons_succ])
    refine wpAnyH_ready (rs := [6]) (by kernel_rfl) (by simp) ?_
    refine AllReadyH.cons rfl (fun K hK => ?_) AllReadyH.nil
    go_simp
    refine s4.mono ?_
    rintro e Wq ⟨rfl, sq, uq⟩
    have fq := cell_updB uq KG.out fgd
    first | have s5 := f_st3y n ho sq (LN.out 1) | have s5 := f_st3n n ho sq (LN.out 1)
    refine hK.out _ _ fq (fun hS2 => ?_)
    clear hK K s4 hS sq uq
    (try simp only [Act.put, List.getElem_toArray, List.getElem_cons_zero, List.getElem_cons_succ, List.setIfInBounds_toArray, List.set_cons_zero, List.set_cons_succ])
    refine wpAnyH_ready (rs := [13]) (by kernel_rfl) (by simp) ?_
    refine AllReadyH.cons rfl (fun K hK => ?_) AllReadyH.nil
    go_simp
    refine s5.mono ?_
    rintro e Wr ⟨rfl, sr, ur⟩
    have fr := cell_updB ur KG.out fq
    have Q := hid sr
    refine hK.out _ _ fr (fun hS => ?_)
    clear hK K s5 hS2 sr ur fq QD
    (try simp only [Act.put, List.getElem_toArray, List.getElem_cons_zero, List.getElem_cons_succ, List.setIfInBounds_toArray, List.set_cons_zero, List.set_cons_succ])
    (refine wpAnyH_take (i := 14) (v := ?_) rfl (by kernel_rfl) (by kernel_rfl) (by kernel_rfl) (fun _ _ _ h => h) (Or.inl ⟨by rfl, ?_⟩) hS ?_); rotate_left; (focus (intro w' hSw; (have el2 : w'.cell? ⟨g, 2, none⟩ = some (.int .u64 ((hw 2 : Nat) : Int)) := (cell_of_row w' g 2 _ _ _ hSw).trans U2.out); (have el3 : w'.cell? ⟨g, 3, none⟩ = some (.int .u64 ((hw 3 : Nat) : Int)) := (cell_of_row w' g 3 _ _ _ hSw).trans U3.out); go_simp; (try with_reducible rfl))); (try simp only [Act.put, List.getElem_toArray, List.getElem_cons_zero, List.getElem_cons_succ, List.setIfInBounds_toArray, List.set_cons_zero, List.set_cons_succ])
    (refine wpAnyH_take (i := 15) (v := ?_) rfl (by kernel_rfl) (by kernel_rfl) (by kernel_rfl) (fun _ _ _ h => h) (Or.inl ⟨by rfl, ?_⟩) hS ?_); rotate_left; (focus (intro w' hSw; (have el2 : w'.cell? ⟨g, 2, none⟩ = some (.int .u64 ((hw 2 : Nat) : Int)) := (cell_of_row w' g 2 _ _ _ hSw).trans U2.out); (have el3 : w'.cell? ⟨g, 3, none⟩ = some (.int .u64 ((hw 3 : Nat) : Int)) := (cell_of_row w' g 3 _ _ _ hSw).trans U3.out); go_simp; (try with_reducible rfl))); (try simp only [Act.put, List.getElem_toArray, List.getElem_cons_zero, List.getElem_cons_succ, List.setIfInBounds_toArray, List.set_cons_zero, List.set_cons_succ])
    refine wpAnyH_done (by kernel_rfl) ?_ _
    have t2 : Wr.cell? ⟨g, 2, none⟩ = some (.int .u64 ((hw 2 : Nat) : Int)) := (cell_of_row Wr g 2 _ _ _ fr).trans U2.out
    (try have l3 := f_ld2 hs (YS.out (small_short i hs)) Q.out (LN.out 2))
    go_upto_region 40 with (go_at_call 11; (with_reducible refine l3.mono ?_); rintro e Wr ⟨rfl, hBk⟩; (replace fr := cell_keepB hBk fr); (replace Q := hid (Q.out.below' hBk)); clear l3 hBk)
    obtain ⟨SS, S0, Sb, Sl, Sr⟩ : ∃ SS : World → Prop, SS Wr ∧ (∀ w w', SS w → Below w.heap.size w w' → SS w') ∧ (∀ (w : World) (m : Nat), m < n → SS w → Calls Tryz.prog 11 #[.pointer (some ⟨hb, 0, none⟩), .int .u64 (hw 3 : Nat), .int .i64 m] w fun e w' => ∃ z : Int, e = .returned (.tuple #[.int .u64 z, .int .i64 0]) ∧ (¬ m = k → z = 18444773748872577024) ∧ Below w.heap.size w w') ∧ (∀ w, SS w → Below W.heap.size W w) := ⟨_, Q.out, fun w w' s h => s.below' h, fun w m hm s => f_ld3d n m _ hm NB.out.2.2 _ s, fun w s => s.bel⟩
    have SB := hid Sb
    have SL := hid Sl
    have SR := hid Sr
    have L0 := hid (And.intro S0 fr)
    clear Q Sb Sl Sr S0 fr hs ho a1 a2 LN YS fgd fg KG U0 U1 U2
    (try clear a3)
    (try clear a4)
    (try clear t2)
    (try clear l3)
    go_wp2
    go_loopw [31, 32, 33] (fun ii _ _ wr => ∃ j : Nat, j ≤ n ∧ ii = .int .i64 j ∧ SS wr ∧ wr.heap[g]? = some (.cells cur 22 (0, 0))) (fun ii _ _ _ => n - (intOf ii).toNat)
    case atStart => exact ⟨0, Nat.zero_le _, rfl, L0.out.1, L0.out.2⟩
    case round =>
      obtain ⟨j, hj, rfl, hq, hf⟩ := hrel
      clear L0
      have w1 := br_succ hj (Nat.le_trans NB.out.2.1 (by decide))
      by_cases hlt : j < n
      · have cl := SL.out wr j hlt hq
        have j1 := br_lt hlt
        have t3 : wr.cell? ⟨g, 3, none⟩ = some (.int .u64 ((hw 3 : Nat) : Int)) := (cell_of_row wr g 3 _ _ _ hf).trans U3.out
        have QJ := hid hq
        have FJ := hid hf
        clear hq hf SL
        by_cases c : j = k
        · subst c
          go_wp2_with (go_at_call 11; (with_reducible refine cl.mono ?_); rintro e w3 ⟨z, rfl, -, hB3⟩; clear cl)
          go_roundw
          case rel => exact ⟨j + 1, hlt, by go_num, SB.out _ _ QJ.out hB3, cell_keepB hB3 FJ.out⟩
          case measure => exact br_meas hlt
        · have c' : ¬ (j : Int) = k := by omega
          go_wp2_with (go_at_call 11; (with_reducible refine cl.mono ?_); rintro e w3 ⟨z, rfl, hz, hB3⟩; (have hz' := hz c); subst hz'; clear cl hz)
          go_roundw
          case rel => exact ⟨j + 1, hlt, by go_num, SB.out _ _ QJ.out hB3, cell_keepB hB3 FJ.out⟩
          case measure => exact br_meas hlt
      · have j1 := br_nlt hlt
        have cw := awake9_c wr
        have HBl := hid (SR.out wr hq)
        clear hq hf SL SB SR
        go_wp2_with (go_at_call 14; (with_reducible refine cw.mono ?_); rintro e w5 ⟨rfl, hB5⟩; clear cw)
        go_ret
        exact ⟨rfl, HBl.out.trans (hB5.mono HBl.out.size)⟩)
set_option maxRecDepth 100000 in
theorem bufRounds_walk (a0 : Int) (h0 : (Lit.int .u64 a0).wf = true) (a1 : Int) (h1 : (Lit.int .i64 a1).wf = true) (a2 : Int) (h2 : (Lit.int .i64 a2).wf = true) (a3 : Int) (h3 : (Lit.int .i64 a3).wf = true) (W : World) : Calls Tryz.prog 3 #[.int .u64 a0, .int .i64 a1, .int .i64 a2, .int .i64 a3] W fun e w' => e = .returned (.bool true) ∧ Below W.heap.size W w' := by
  have r0 := wf_u64 h0
  have r1 := wf_i64 h1
  by_cases c1 : a2 < 1
  · clear r0 r1 h0 h1 h2 h3
    go_enter Tryz.func3, Tryz.ntmps3
    go_wp2
    go_ret
    exact ⟨rfl, Below.refl _ _⟩
  · by_cases c2 : a2 > 50
    · clear r0 r1 h0 h1 h2 h3
      go_enter Tryz.func3, Tryz.ntmps3
      go_wp2
      go_ret
      exact ⟨rfl, Below.refl _ _⟩
    · by_cases c3 : a3 < 0
      · clear r0 r1 h0 h1 h2 h3
        go_enter Tryz.func3, Tryz.ntmps3
        go_wp2
        go_ret
        exact ⟨rfl, Below.refl _ _⟩
      · by_cases c4 : a3 ≥ a2
        · clear r0 r1 h0 h1 h2 h3
          go_enter Tryz.func3, Tryz.ntmps3
          go_wp2
          go_ret
          exact ⟨rfl, Below.refl _ _⟩
        · obtain ⟨n, rfl⟩ := Int.eq_ofNat_of_zero_le (show 0 ≤ a2 by omega)
          obtain ⟨k, rfl⟩ := Int.eq_ofNat_of_zero_le (show 0 ≤ a3 by omega)
          exact rounds_core a0 a1 n k r0.1 (by omega) r1.1 r1.2 (by omega) (by omega) (by omega) W
end Go.Proofs.YtenpopelbmeemaaGreat.W
