import Derived.Test.YtenpopelbmeemaaGreatBase34
/- BufOutside: narrows and rows. -/
namespace Go.Proofs.YtenpopelbmeemaaGreat.W
open Go.ChangeShapes Go.WideShapes Go.RowKit Go.Shelf
set_option linter.unusedVariables false
set_option maxRecDepth 100000 in
theorem ways_narrows (n : Nat) : Ways 6 n 0 4607182418800017408 := by
  have eb : blankH 6 n = .buf 6 (List.replicate (n * 4) 0) := rfl
  have ld : ∀ (bs : List Nat) (f : Nat → Nat), bs.length = n * 4 → (∀ i, i < n → leN (seg bs (0 + i * 4) 4) = f i) → (∀ i, f i < 4294967296) → ∀ (g : Nat → Int), (∀ i, i < n → Sf.wideI ((f i : Nat) : Int) = g i) → Loads n (.buf 6 bs) g := by
    intro bs f hl hf hlt g hg W0 W hb K i hi q
    obtain ⟨sb, vc, T, l⟩ := q.lay
    have e1 := end_le (wd := 4) hi
    have cw : ∀ w, Calls Tryz.prog 101 #[.int .u32 ((leN (seg bs (0 + i * 4) 4) : Nat) : Int)] w fun e w' => e = .returned (.int .u64 (g i)) ∧ Below w.heap.size w w' := by
      intro w
      rw [hf i hi]
      refine (Sf.softWide_c ((f i : Nat) : Int) (by have := hlt i; omega) w).mono ?_
      rintro e w' ⟨rfl, m, rfl⟩
      exact ⟨by rw [hg i hi], Sf.bel_drewN w m⟩
    exact load_narrows l (one_spot 6 bs) i (by rw [hl]; exact e1) (by decide) (g i) cw
  refine ⟨fun i => .buf 6 (saved (List.replicate (n * 4) 0) (0 + i * 4) 1065353216 4), ?_, ?_, ?_⟩
  · rw [eb]
    exact ld _ (fun _ => 0) List.length_replicate (fun i hi => el_blank hi) (fun _ => by decide) _ (fun i hi => by decide +kernel)
  · rw [eb]
    intro W0 W hb K i hi q
    have e1 := end_le (wd := 4) hi
    refine (hf_calls (v := .int .i64 0) (H' := [some (.buf 6 (List.replicate (n * 4) 0))].set 0 (some (.buf 6 (saved (List.replicate (n * 4) 0) (0 + i * 4) 1065353216 4)))) q (sumH_same (one_spot 6 _).cell (buf_need _ _ _ _ (saved_len _ _ _ _))) (fun sb vc T l => ?_)).mono ?_
    rotate_left
    · rintro e w' ⟨rfl, h1, h2⟩
      exact ⟨rfl, h1⟩
    · rw [oneN_w]
      refine store_narrows l (one_spot 6 _) i (by rw [List.length_replicate]; exact e1) (intW 1) 2 1 0 0 ⟨#[]⟩ (fun w2 hB => unbox_sint 1 one_small _ w2) 0 (fun w' => HLay w' hb sb vc T _ _ _) (fun w4 Br Bw hB hP => ?_)
      exact narrows2_c (l.below hB) (one_spot 6 _) hP i (by rw [List.length_replicate]; exact e1) (by omega) (intW 1) 2 1 0 0 ⟨#[]⟩ 1065353216 4607182418800017408 (by decide) (fun w => (Sf.narrow_one w).mono (by rintro e w' ⟨rfl, rfl⟩; exact ⟨rfl, Below.refl _ _⟩)) (fun w => double_int 1 _ (fun w => (Sf.softFromInt_c 1 w).mono (by rintro e w' ⟨rfl, rfl⟩; exact ⟨by rw [Sf.one_fromI], Below.refl _ _⟩)) w)
  · intro i hi
    refine ⟨⟨trivial, ?_⟩, ld _ (fun j => if j = i then 1065353216 else 0) (by rw [saved_len, List.length_replicate]) (fun j hj => el_saved hi hj (by decide)) (fun j => by by_cases c : j = i <;> simp only [c, if_true, if_false] <;> decide) _ (fun j hj => ?_)⟩
    · show (saved _ _ _ _).length / 4 = n
      rw [saved_len, List.length_replicate, Nat.mul_div_cancel _ (by decide)]
    · by_cases c : j = i
      · subst c; simp only [if_pos]; decide +kernel
      · simp only [if_neg c]; decide +kernel
theorem ways_row (n : Nat) : Ways 9 n ((nilN : Nat) : Int) (intW 1) := by
  have eb : blankH 9 n = .row (List.replicate n nilN) := rfl
  have ld : ∀ (ws : List Nat) (g : Nat → Int), ws.length = n → (∀ i (h : i < ws.length), ((ws[i] : Nat) : Int) = g i) → Loads n (.row ws) g := by
    intro ws g hl hg W0 W hb K i hi q
    obtain ⟨sb, vc, T, l⟩ := q.lay
    have := load_words l (hw 0) (hw_lt 0 (by decide)) 0 (one_hit _) ws rfl i (by omega)
    rw [hg i (by omega)] at this
    exact this
  refine ⟨fun i => .row ((List.replicate n nilN).set i oneN), ?_, ?_, ?_⟩
  · rw [eb]
    exact ld _ _ List.length_replicate (fun i hi => by rw [List.getElem_replicate])
  · rw [eb]
    intro W0 W hb K i hi q
    refine (hf_calls (v := .int .i64 0) (H' := [some (.row (List.replicate n nilN))].set 0 (some (.row ((List.replicate n nilN).set i oneN)))) q (sumH_same (c := .row (List.replicate n nilN)) rfl (row_need2 _ _ (by rw [List.length_set]))) (fun sb vc T l => ?_)).mono ?_
    rotate_left
    · rintro e w' ⟨rfl, h1, h2⟩
      exact ⟨rfl, h1⟩
    · exact store_words l (hw 0) (hw_lt 0 (by decide)) 0 (one_hit _) _ rfl i (by rw [List.length_replicate]; exact hi) oneN (by decide) (by unfold isVal; rw [if_neg (by decide), if_neg (by decide)]) 2 1 0 0 ⟨#[]⟩ (fun w2 hB => by rw [oneN_w]; exact unbox_sint 1 one_small _ w2)
  · intro i hi
    refine ⟨⟨trivial, ?_⟩, ld _ _ (by rw [List.length_set, List.length_replicate]) (fun j hj => ?_)⟩
    · show ((List.replicate n nilN).set i oneN).length = n
      rw [List.length_set, List.length_replicate]
    · rw [List.getElem_set]
      by_cases c : j = i
      · subst c; rw [if_pos rfl, if_pos rfl, oneN_w]
      · rw [if_neg (fun e => c e.symm), if_neg c, List.getElem_replicate]
end Go.Proofs.YtenpopelbmeemaaGreat.W
