import Derived.Test.YtenpopelbmeemaaGreatBase34
/- BufOutside: shorts and doubles. -/
namespace Go.Proofs.YtenpopelbmeemaaGreat.W
open Go.ChangeShapes Go.WideShapes Go.RowKit Go.Shelf
set_option linter.unusedVariables false
set_option maxRecDepth 100000 in
theorem ways_shorts (n : Nat) : Ways 7 n (intW 0) (intW 1) := by
  have eb : blankH 7 n = .buf 7 (List.replicate (n * 2) 0) := rfl
  have ld : ∀ (bs : List Nat) (f : Nat → Nat), bs.length = n * 2 → (∀ i, i < n → leN (seg bs (0 + i * 2) 2) = f i) → ∀ (g : Nat → Int), (∀ i, i < n → elI 7 (f i) = g i) → Loads n (.buf 7 bs) g := by
    intro bs f hl hf g hg W0 W hb K i hi q
    obtain ⟨sb, vc, T, l⟩ := q.lay
    have e1 := end_le (wd := 2) hi
    have := load_shorts l (one_spot 7 bs) i (by rw [hl]; exact e1) (by decide)
    rw [hf i hi, hg i hi] at this
    exact this
  refine ⟨fun i => .buf 7 (saved (List.replicate (n * 2) 0) (0 + i * 2) 1 2), ?_, ?_, ?_⟩
  · rw [eb]
    exact ld _ (fun _ => 0) List.length_replicate (fun i hi => el_blank hi) _ (fun i hi => by decide +kernel)
  · rw [eb]
    intro W0 W hb K i hi q
    have e1 := end_le (wd := 2) hi
    refine (hf_calls (v := .int .i64 0) (H' := [some (.buf 7 (List.replicate (n * 2) 0))].set 0 (some (.buf 7 (saved (List.replicate (n * 2) 0) (0 + i * 2) 1 2)))) q (sumH_same (one_spot 7 _).cell (buf_need _ _ _ _ (saved_len _ _ _ _))) (fun sb vc T l => ?_)).mono ?_
    rotate_left
    · rintro e w' ⟨rfl, h1, h2⟩
      exact ⟨rfl, h1⟩
    · rw [oneN_w]
      refine store_shorts l (one_spot 7 _) i (by rw [List.length_replicate]; exact e1) (intW 1) 2 1 0 0 ⟨#[]⟩ (fun w2 hB => unbox_sint 1 one_small _ w2) 0 (fun w' => HLay w' hb sb vc T _ _ _) (fun w4 Br Bw hB hP => ?_)
      exact shorts2_c (l.below hB) (one_spot 7 _) hP i (by rw [List.length_replicate]; exact e1) (by omega) (intW 1) 1 (by decide)
  · intro i hi
    refine ⟨⟨trivial, ?_⟩, ld _ (fun j => if j = i then 1 else 0) (by rw [saved_len, List.length_replicate]) (fun j hj => el_saved hi hj (by decide)) _ (fun j hj => ?_)⟩
    · show (saved _ _ _ _).length / 2 = n
      rw [saved_len, List.length_replicate, Nat.mul_div_cancel _ (by decide)]
    · by_cases c : j = i
      · subst c; simp only [if_pos]; decide +kernel
      · simp only [if_neg c]; decide +kernel
set_option maxRecDepth 100000 in
theorem ways_doubles (n : Nat) : Ways 5 n 0 4607182418800017408 := by
  have eb : blankH 5 n = .buf 5 (List.replicate (n * 8) 0) := rfl
  have ld : ∀ (bs : List Nat) (f : Nat → Nat), bs.length = n * 8 → (∀ i, i < n → leN (seg bs (0 + i * 8) 8) = f i) → ∀ (g : Nat → Int), (∀ i, i < n → fltW ((f i : Nat) : Int) = g i) → Loads n (.buf 5 bs) g := by
    intro bs f hl hf g hg W0 W hb K i hi q
    obtain ⟨sb, vc, T, l⟩ := q.lay
    have e1 := end_le (wd := 8) hi
    have := load_doubles l (one_spot 5 bs) i (by rw [hl]; exact e1) (by decide)
    rw [hf i hi, hg i hi] at this
    exact this
  refine ⟨fun i => .buf 5 (saved (List.replicate (n * 8) 0) (0 + i * 8) 4607182418800017408 8), ?_, ?_, ?_⟩
  · rw [eb]
    exact ld _ (fun _ => 0) List.length_replicate (fun i hi => el_blank hi) _ (fun i hi => by decide +kernel)
  · rw [eb]
    intro W0 W hb K i hi q
    have e1 := end_le (wd := 8) hi
    refine (hf_calls (v := .int .i64 0) (H' := [some (.buf 5 (List.replicate (n * 8) 0))].set 0 (some (.buf 5 (saved (List.replicate (n * 8) 0) (0 + i * 8) 4607182418800017408 8)))) q (sumH_same (one_spot 5 _).cell (buf_need _ _ _ _ (saved_len _ _ _ _))) (fun sb vc T l => ?_)).mono ?_
    rotate_left
    · rintro e w' ⟨rfl, h1, h2⟩
      exact ⟨rfl, h1⟩
    · rw [oneN_w]
      refine store_doubles l (one_spot 5 _) i (by rw [List.length_replicate]; exact e1) (intW 1) 2 1 0 0 ⟨#[]⟩ (fun w2 hB => unbox_sint 1 one_small _ w2) 0 (fun w' => HLay w' hb sb vc T _ _ _) (fun w4 Br Bw hB hP => ?_)
      exact doubles2_c (l.below hB) (one_spot 5 _) hP i (by rw [List.length_replicate]; exact e1) (by omega) (intW 1) 2 1 0 0 ⟨#[]⟩ 4607182418800017408 (by decide) (fun w => double_int 1 _ (fun w => (Sf.softFromInt_c 1 w).mono (by rintro e w' ⟨rfl, rfl⟩; exact ⟨by rw [Sf.one_fromI]; rfl, Below.refl _ _⟩)) w)
  · intro i hi
    refine ⟨⟨trivial, ?_⟩, ld _ (fun j => if j = i then 4607182418800017408 else 0) (by rw [saved_len, List.length_replicate]) (fun j hj => el_saved hi hj (by decide)) _ (fun j hj => ?_)⟩
    · show (saved _ _ _ _).length / 8 = n
      rw [saved_len, List.length_replicate, Nat.mul_div_cancel _ (by decide)]
    · by_cases c : j = i
      · subst c; simp only [if_pos]; decide +kernel
      · simp only [if_neg c]; decide +kernel
end Go.Proofs.YtenpopelbmeemaaGreat.W
