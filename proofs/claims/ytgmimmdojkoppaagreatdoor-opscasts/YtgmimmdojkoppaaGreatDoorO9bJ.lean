import Derived.Test.YtgmimmdojkoppaaGreatDoorFpZJ
/- A word behind two in a new row of one's own; classes. -/
namespace Go.Proofs.YtgmimmdojkoppaaGreatDoor.W.Nu
open Go.ChangeShapes Go.WideShapes Go.RowKit Go.Shelf
set_option linter.unusedVariables false
/-- a word is put behind two, in a new row -/
theorem app3k (W : World) (rb x y p : Nat) (ty : TypeId) (r0 : W.cell? ⟨rb, 0, none⟩ = some (.int .u64 (x : Nat))) (r1 : W.cell? ⟨rb, 1, none⟩ = some (.int .u64 (y : Nat))) (lx : x < 18446744073709551616) (ly : y < 18446744073709551616) (lp : p < 18446744073709551616) :
    ∃ (g cap : Nat) (w' : World), (Builtin.append_ #[31, 31] ty #[.slice (some ⟨rb, 0, none⟩) 2 2, .slice (some ⟨W.heap.size, 0, none⟩) 1 1]).run Tryz.prog (W.alloc (.cells #[.int .u64 (p : Nat)] 22)) = .ok (.slice (some ⟨g, 0, none⟩) 3 cap) w' ∧ W.heap.size ≤ g ∧ g < w'.heap.size ∧ Below W.heap.size W w' ∧ WordsAt w' (.slice (some ⟨g, 0, none⟩) 3 cap) [x, y, p] := by
  obtain ⟨i0, hi, hz0, hz1, hz2⟩ := info_parts infoW
  have hB1 : Below W.heap.size W (W.alloc (.cells #[.int .u64 (p : Nat)] 22)) := (Below.refl _ W).alloc (Nat.le_refl _) _
  have e0 := World.cell?_alloc_new W #[.int .u64 (p : Nat)] 22 0
  have k0 := cell_keep hB1 r0
  have k1 := cell_keep hB1 r1
  generalize W.alloc (.cells #[.int .u64 (p : Nat)] 22) = V at *
  have ad : ∀ (b j : Nat), ((⟨b, 0, none⟩ : Addr).add j) = ⟨b, j, none⟩ := fun b j => by unfold Addr.add; split <;> simp_all
  have hr := run_append_grow_src (P := Tryz.prog) V 31 31 ty 22 i0 (.int .u64 0) underW hi hz0 (some ⟨rb, 0, none⟩) 2 2 [.int .u64 (x : Nat), .int .u64 (y : Nat)] (run_firstCells_some V.drew i0.size 2 ⟨rb, 0, none⟩ 2 2 _ (by rw [hz1]; rfl) (by
      intro j u hj
      rw [ad]
      have hj2 : j < 2 := (List.getElem?_eq_some_iff.1 hj).1
      have : j = 0 ∨ j = 1 := by omega
      rcases this with rfl | rfl
      · cases hj; exact k0
      · cases hj; exact k1)) (.slice (some ⟨W.heap.size, 0, none⟩) 1 1) 1 [.int .u64 (p : Nat)] (Src.ofSlice V underW ⟨W.heap.size, 0, none⟩ 1 1 [.int .u64 (p : Nat)] (by rw [hz1]; rfl) (by
      intro j u hj
      rw [ad]
      have : j = 0 := by have := (List.getElem?_eq_some_iff.1 hj).1; simp at this; exact this
      subst this
      cases hj
      exact e0) (by intro u hu; simp at hu; rw [hu]; rfl)) (by decide) (by decide) (by rw [hz2]; decide)
  refine ⟨_, _, _, hr, hB1.size, by rw [World.size_alloc]; exact Nat.lt_succ_self _, ?_, ?_⟩
  · have h2 : Below W.heap.size W V.drew := hB1.drew
    exact h2.alloc h2.size _
  · refine ⟨_, _, rfl, by simp, fun z hz => by simp at hz; rcases hz with rfl | rfl | rfl <;> assumption, fun j hj => ⟨_, rfl, ?_⟩⟩
    rw [ad]
    have hh := World.cell?_alloc_new V.drew (([Value.int .u64 (x : Nat), Value.int .u64 (y : Nat)] ++ [Value.int .u64 (p : Nat)]).toArray ++ Builtin.zeroCells (Value.int .u64 0).cells (grownCap V (2 + 1) 2 22 - (2 + 1))) 22 j
    have e1 : V.drew.heap.size = V.heap.size := rfl
    rw [e1] at hh
    rw [hh, Array.getElem?_append_left (by simp at hj ⊢; omega)]
    have : j = 0 ∨ j = 1 ∨ j = 2 := by simp at hj; omega
    rcases this with rfl | rfl | rfl <;> rfl
theorem words_upd {W0 W W' : World} {K : Nat → Prop} {g n cap : Nat} {ws : List Nat} (hU : Upd (Ch W0 K) W W') (hk : K g) (h : WordsAt W (.slice (some ⟨g, 0, none⟩) n cap) ws) : WordsAt W' (.slice (some ⟨g, 0, none⟩) n cap) ws := by
  obtain ⟨o, c, he, h1, h2, h3⟩ := h
  refine ⟨o, c, he, h1, h2, fun i hi => ?_⟩
  obtain ⟨x, hx, hc⟩ := h3 i hi
  refine ⟨x, hx, ?_⟩
  have hx2 : x = ⟨g, 0, none⟩ := by
    rw [hx] at he
    injection he with e1
    injection e1 with e2
    exact e2.symm
  subst hx2
  have ad : ((⟨g, 0, none⟩ : Addr).add i) = ⟨g, i, none⟩ := by unfold Addr.add; split <;> simp_all
  rw [ad] at hc ⊢
  exact cell_upd hU hk hc
theorem class_b (n : Int) (h0 : 0 ≤ n) (h1 : n < 18446744073709551616) (k : Int) (hk : Go.Proofs.YtgmimmdojkoppaaGreatDoor.W.cls n = k) (w : World) : Calls Tryz.prog 7 #[.int .u64 n] w fun e w' => e = .returned (.int .i64 k) ∧ Below w.heap.size w w' := by
  refine (refClass_c n h0 h1 w).mono ?_
  rintro e w' ⟨rfl, m, rfl⟩
  rw [hk]
  exact ⟨rfl, below_drewN w m⟩
end Go.Proofs.YtgmimmdojkoppaaGreatDoor.W.Nu
