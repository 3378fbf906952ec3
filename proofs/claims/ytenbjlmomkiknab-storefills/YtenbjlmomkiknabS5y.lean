/- container/heap over the free Ids: up, down, Push, Pop. -/
import Derived.Test.YtenbjlmomkiknabS5x
namespace Go.Proofs.Ytenbjlmomkiknab.W
open Go.ChangeShapes Go.WideShapes Go.RowKit Go.Shelf
set_option linter.unusedVariables false
/-- the store with other free Ids -/
def Sto.fr (s : Sto) (l : List Int) : Sto := { s with free := l }
section
variable {W : World} {sb : Nat} {vr vb vf : Value} {s : Sto}
theorem less_h (h : Lay W sb vr vb vf s) {g cap n : Nat} (hf : vf = .slice (some ⟨g, 0, none⟩) n cap) (hn : s.free.length = n) (hlen : n ≤ 1000000000) (i j : Nat) (hi : i < n) (hj : j < n) :
    Calls Try.prog 120 #[.slice (some ⟨g, 0, none⟩) n cap, .int .i64 i, .int .i64 j] W fun e w' => e = .returned (.bool (decide (hp s.free i < hp s.free j))) ∧ ∃ m, w' = W.drewN m := by
  subst hn
  have := less_c h hf hlen i j hi hj
  have e1 : hp s.free i = s.free[i] := by simp [hp, hi]
  have e2 : hp s.free j = s.free[j] := by simp [hp, hj]
  rw [e1, e2]; exact this
theorem swap_h (h : Lay W sb vr vb vf s) {g cap n : Nat} (hf : vf = .slice (some ⟨g, 0, none⟩) n cap) (hn : s.free.length = n) (hlen : n ≤ 1000000000) (i j : Nat) (hi : i < n) (hj : j < n) :
    Calls Try.prog 121 #[.slice (some ⟨g, 0, none⟩) n cap, .int .i64 i, .int .i64 j] W fun e w' => e = .returned (.tuple #[]) ∧ Lay w' sb vr vb vf (s.fr (swp s.free i j)) ∧ Upd (fun k => k = g) W w' := by
  subst hn
  exact swap_c h hf hlen i j hi hj
set_option maxHeartbeats 2000000 in
theorem up_c (h : Lay W sb vr vb vf s) {g cap : Nat} (hf : vf = .slice (some ⟨g, 0, none⟩) s.free.length cap) (hlen : s.free.length ≤ 1000000000) (j0 : Nat) (hinv : UpInv s.free s.free.length j0) :
    Calls Try.prog 84 #[.iface 103 (.pointer (some ⟨sb, 7, none⟩)), .int .i64 j0] W fun e w' => e = .returned (.tuple #[]) ∧ Upd (fun k => k = g) W w' ∧ ∃ free', free'.Perm s.free ∧ IsHeap free' s.free.length ∧ Lay w' sb vr vb vf (s.fr free') := by
  have HF := (show Hid _ from hf)
  clear hf
  go_enter Try.func84, Try.ntmps84
  go_wp2
  go_loopw [1] (fun jv wr => ∃ (j : Nat) (free' : List Int), jv = .int .i64 j ∧ free'.length = s.free.length ∧ free'.Perm s.free ∧ UpInv free' s.free.length j ∧ Lay wr sb vr vb vf (s.fr free') ∧ Upd (fun k => k = g) W wr) (fun jv _ => (intOf jv).toNat)
  case atStart => exact ⟨j0, s.free, rfl, rfl, List.Perm.refl _, hinv, h, Upd.refl _ _⟩
  case round =>
    obtain ⟨j, free', rfl, hl, hp1, hi, hL, hU⟩ := hrel
    have hjl := hi.lt
    have c7 := hL.cell 7
    simp [Sto.obj, Sto.fr, HF.out] at c7
    have HP := (show Hid _ from hp1)
    have HI := (show Hid _ from hi)
    have HL := (show Hid _ from hL)
    have HU := (show Hid _ from hU)
    by_cases hj0 : j = 0
    · subst hj0
      clear hL hU hp1 hi
      go_wp2
      go_end0
      exact ⟨rfl, HU, free', HP, HI.out.exit (.inl rfl), HL⟩
    · obtain ⟨q, hq⟩ : ∃ q, q = (j - 1) / 2 := ⟨_, rfl⟩
      have hjp : (1 : Int) ≤ j := by omega
      have e1 : ((j : Int) - 1).tdiv 2 = (q : Nat) := by
        rw [Int.tdiv_eq_ediv_of_nonneg (by omega)]; omega
      have hqi : q < j := by omega
      have m1 := fun k => meth_less sb (wr.drewN k) (some ⟨g, 0, none⟩) s.free.length cap c7
      have m2 := fun k => meth_swap sb (wr.drewN k) (some ⟨g, 0, none⟩) s.free.length cap c7
      have m10 := m1 0
      rw [World.drewN_zero] at m10
      have cl : Calls Try.prog 120 #[.slice (some ⟨g, 0, none⟩) s.free.length cap, .int .i64 j, .int .i64 q] wr fun e w' => e = .returned (.bool (decide (hp free' j < hp free' q))) ∧ ∃ m, w' = wr.drewN m := less_h hL HF.out hl (by omega) j q (by omega) (by omega)
      have csw : ∀ k, Calls Try.prog 121 #[.slice (some ⟨g, 0, none⟩) s.free.length cap, .int .i64 q, .int .i64 j] (wr.drewN k) fun e w' => e = .returned (.tuple #[]) ∧ Lay w' sb vr vb vf (s.fr (swp free' q j)) ∧ Upd (fun k => k = g) (wr.drewN k) w' := fun k => swap_h (hL.drewN k) HF.out hl (by omega) q j (by omega) (by omega)
      have hqe : (((q : Nat) : Int) == (j : Int)) = false := by simp; omega
      have hin : (j : Int) ≤ 1000000000 := by omega
      have HQ := (show Hid _ from hq)
      clear hL hU hp1 hi c7 hq
      by_cases hless : hp free' j < hp free' q
      · rw [decide_eq_true hless] at cl
        have HS : Hid (UpInv (swp free' q j) s.free.length q) := by
          have := HI.out.step (by omega) (by omega) (by rw [← HQ.out]; exact hless)
          rw [← HQ.out] at this
          exact this
        go_wp2_with (first | (go_at_call 120; (with_reducible refine cl.mono ?_); rintro e w' ⟨rfl, k1, hw⟩; (have hw' := hw.symm); subst hw'; clear hw) | (go_at_call 121; (with_reducible refine (csw _).mono ?_); rintro e W5 ⟨rfl, hL5, hU5⟩))
        go_roundw
        case rel => exact ⟨q, swp free' q j, rfl, by rw [swp_len]; exact hl, (swp_perm _ _ _ (by omega) (by omega)).trans HP.out, HS.out, hL5, (HU.out.drewN _).trans' hU5⟩
        case measure => simp [intOf]; omega
      · rw [decide_eq_false hless] at cl
        go_wp2_with (first | (go_at_call 120; (with_reducible refine cl.mono ?_); rintro e w' ⟨rfl, k1, hw⟩; (have hw' := hw.symm); subst hw'; clear hw))
        go_end0
        exact ⟨rfl, HU.out.drewN _, free', HP, HI.out.exit (.inr (by rw [← HQ.out]; omega)), HL.out.drewN _⟩
set_option maxHeartbeats 4000000 in
theorem down_c (h : Lay W sb vr vb vf s) {g cap : Nat} (hf : vf = .slice (some ⟨g, 0, none⟩) s.free.length cap) (hlen : s.free.length ≤ 1000000000) (n : Nat) (hn : n ≤ s.free.length) (hinv : DownInv s.free n 0) :
    Calls Try.prog 97 #[.iface 103 (.pointer (some ⟨sb, 7, none⟩)), .int .i64 0, .int .i64 n] W fun e w' => (∃ v, e = .returned v) ∧ Upd (fun k => k = g) W w' ∧ ∃ free', free'.Perm s.free ∧ IsHeap free' n ∧ (∀ k, n ≤ k → hp free' k = hp s.free k) ∧ Lay w' sb vr vb vf (s.fr free') := by
  have HF := (show Hid _ from hf)
  clear hf
  go_enter Try.func97, Try.ntmps97
  go_wp2
  go_loopw [7] (fun iv wr => ∃ (i : Nat) (free' : List Int), iv = .int .i64 i ∧ free'.length = s.free.length ∧ free'.Perm s.free ∧ DownInv free' n i ∧ (i ≤ n) ∧ (∀ k, n ≤ k → hp free' k = hp s.free k) ∧ Lay wr sb vr vb vf (s.fr free') ∧ Upd (fun k => k = g) W wr) (fun iv _ => n - (intOf iv).toNat)
  case atStart => exact ⟨0, s.free, rfl, rfl, List.Perm.refl _, hinv, Nat.zero_le _, fun _ _ => rfl, h, Upd.refl _ _⟩
  case round =>
    obtain ⟨i, free', rfl, hl, hp1, hi, hin, hkk, hL, hU⟩ := hrel
    have c7 := hL.cell 7
    simp [Sto.obj, Sto.fr, HF.out] at c7
    have HP := (show Hid _ from hp1)
    have HI := (show Hid _ from hi)
    have HL := (show Hid _ from hL)
    have HU := (show Hid _ from hU)
    have HK := (show Hid _ from hkk)
    have i0 : (0 : Int) ≤ i := by omega
    have i1 : (i : Int) ≤ 1000000000 := by omega
    have n1 : (n : Int) ≤ 1000000000 := by omega
    have m1 := fun k => meth_less sb (wr.drewN k) (some ⟨g, 0, none⟩) s.free.length cap c7
    have m2 := fun k => meth_swap sb (wr.drewN k) (some ⟨g, 0, none⟩) s.free.length cap c7
    have m10 := m1 0
    rw [World.drewN_zero] at m10
    obtain ⟨c1, hc1⟩ : ∃ c1, c1 = 2 * i + 1 := ⟨_, rfl⟩
    have e1 : (2 * (i : Int) + 1) = (c1 : Nat) := by omega
    by_cases hA : n ≤ c1
    · have hA' : (n : Int) ≤ c1 := by omega
      have HE : Hid (IsHeap free' n) := HI.out.exit (j := 0) (.inl (by omega))
      clear hL hU hp1 hi hkk hc1
      go_wp2
      go_ret
      exact ⟨⟨_, rfl⟩, HU, free', HP, HE.out, HK.out, HL⟩
    · have hA' : ¬ (n : Int) ≤ c1 := by omega
      have c0 : ¬ (c1 : Int) < 0 := by omega
      by_cases hB : n ≤ c1 + 1
      · have hB' : ¬ ((c1 : Int) + 1 < n) := by omega
        have cji : ∀ k, Calls Try.prog 120 #[.slice (some ⟨g, 0, none⟩) s.free.length cap, .int .i64 (c1 : Nat), .int .i64 i] (wr.drewN k) fun e w' => e = .returned (.bool (decide (hp free' c1 < hp free' i))) ∧ ∃ m, w' = (wr.drewN k).drewN m := fun k => less_h (hL.drewN k) HF.out hl (by omega) c1 i (by omega) (by omega)
        have cji0 := cji 0
        rw [World.drewN_zero] at cji0
        have csw : ∀ k, Calls Try.prog 121 #[.slice (some ⟨g, 0, none⟩) s.free.length cap, .int .i64 i, .int .i64 (c1 : Nat)] (wr.drewN k) fun e w' => e = .returned (.tuple #[]) ∧ Lay w' sb vr vb vf (s.fr (swp free' i c1)) ∧ Upd (fun k => k = g) (wr.drewN k) w' := fun k => swap_h (hL.drewN k) HF.out hl (by omega) i c1 (by omega) (by omega)
        clear hL hU hp1 hi hkk c7
        by_cases hless : hp free' c1 < hp free' i
        · rw [decide_eq_true hless] at cji0
          have HS : Hid (DownInv (swp free' i c1) n c1) := HI.out.step (by omega) (.inl hc1) (by omega) (fun _ => by rw [hc1]; exact Int.le_refl _) (fun _ => by omega) hless
          have HQ : Hid (∀ k, n ≤ k → hp (swp free' i c1) k = hp s.free k) := fun k hk => by
            rw [hp_swp _ _ _ _ (by omega) (by omega), if_neg (by omega), if_neg (by omega)]; exact HK.out k hk
          have hci : i < c1 := by omega
          have hcn : c1 < n := by omega
          clear hc1
          go_wp2_with (first | (go_at_call 120; (with_reducible refine cji0.mono ?_); rintro e w' ⟨rfl, k2, hw⟩; (have hw' := hw.symm); subst hw'; clear hw) | (go_at_call 121; (with_reducible refine (csw _).mono ?_); rintro e W5 ⟨rfl, hL5, hU5⟩))
          go_roundw
          case rel => exact ⟨c1, swp free' i c1, by go_num, by rw [swp_len]; exact hl, (swp_perm _ _ _ (by omega) (by omega)).trans HP.out, HS.out, by omega, HQ.out, hL5, (HU.out.drewN _).trans' hU5⟩
          case measure => simp [intOf]; omega
        · rw [decide_eq_false hless] at cji0
          have HE : Hid (IsHeap free' n) := HI.out.exit (j := c1) (.inr ⟨fun _ => by rw [hc1]; exact Int.le_refl _, fun _ => by omega, hless⟩)
          clear hc1
          go_wp2_with (first | (go_at_call 120; (with_reducible refine cji0.mono ?_); rintro e w' ⟨rfl, k2, hw⟩; (have hw' := hw.symm); subst hw'; clear hw))
          go_ret
          exact ⟨⟨_, rfl⟩, (HU.out.drewN _), free', HP, HE.out, HK.out, HL.out.drewN _⟩
      · have hB' : ((c1 : Int) + 1 < n) := by omega
        obtain ⟨c2, hc2⟩ : ∃ c2, c2 = c1 + 1 := ⟨_, rfl⟩
        have e2 : ((c1 : Int) + 1) = (c2 : Nat) := by omega
        rw [e2] at hB'
        have c21 : Calls Try.prog 120 #[.slice (some ⟨g, 0, none⟩) s.free.length cap, .int .i64 c2, .int .i64 c1] wr fun e w' => e = .returned (.bool (decide (hp free' c2 < hp free' c1))) ∧ ∃ m, w' = wr.drewN m := less_h hL HF.out hl (by omega) c2 c1 (by omega) (by omega)
        by_cases h21 : hp free' c2 < hp free' c1
        · rw [decide_eq_true h21] at c21
          have cji : ∀ k, Calls Try.prog 120 #[.slice (some ⟨g, 0, none⟩) s.free.length cap, .int .i64 (c2 : Nat), .int .i64 i] (wr.drewN k) fun e w' => e = .returned (.bool (decide (hp free' c2 < hp free' i))) ∧ ∃ m, w' = (wr.drewN k).drewN m := fun k => less_h (hL.drewN k) HF.out hl (by omega) c2 i (by omega) (by omega)
          have csw : ∀ k, Calls Try.prog 121 #[.slice (some ⟨g, 0, none⟩) s.free.length cap, .int .i64 i, .int .i64 (c2 : Nat)] (wr.drewN k) fun e w' => e = .returned (.tuple #[]) ∧ Lay w' sb vr vb vf (s.fr (swp free' i c2)) ∧ Upd (fun k => k = g) (wr.drewN k) w' := fun k => swap_h (hL.drewN k) HF.out hl (by omega) i c2 (by omega) (by omega)
          clear hL hU hp1 hi hkk c7
          by_cases hless : hp free' c2 < hp free' i
          · simp only [decide_eq_true hless] at cji
            have HS : Hid (DownInv (swp free' i c2) n c2) := HI.out.step (by omega) (.inr (by omega)) (by omega) (fun _ => by rw [← hc1]; omega) (fun _ => by rw [show 2 * i + 2 = c2 by omega]; exact Int.le_refl _) hless
            have HQ : Hid (∀ k, n ≤ k → hp (swp free' i c2) k = hp s.free k) := fun k hk => by
              rw [hp_swp _ _ _ _ (by omega) (by omega), if_neg (by omega), if_neg (by omega)]; exact HK.out k hk
            have hci : i < c2 := by omega
            have hcn : c2 < n := by omega
            clear hc1 hc2
            go_wp2_with (first | (go_at_call 120; (with_reducible refine c21.mono ?_); rintro e w' ⟨rfl, k1, hw⟩; (have hw' := hw.symm); subst hw'; clear hw c21) | (go_at_call 120; (with_reducible refine (cji _).mono ?_); rintro e w' ⟨rfl, k2, hw⟩; (have hw' := hw.symm); subst hw'; clear hw) | (go_at_call 121; (with_reducible refine (csw _).mono ?_); rintro e W5 ⟨rfl, hL5, hU5⟩))
            go_roundw
            case rel => exact ⟨c2, swp free' i c2, by go_num, by rw [swp_len]; exact hl, (swp_perm _ _ _ (by omega) (by omega)).trans HP.out, HS.out, by omega, HQ.out, hL5, (HU.out.drewN _).trans' hU5⟩
            case measure => simp [intOf]; omega
          · simp only [decide_eq_false hless] at cji
            have HE : Hid (IsHeap free' n) := HI.out.exit (j := c2) (.inr ⟨fun _ => by rw [← hc1]; omega, fun _ => by rw [show 2 * i + 2 = c2 by omega]; exact Int.le_refl _, hless⟩)
            clear hc1 hc2
            go_wp2_with (first | (go_at_call 120; (with_reducible refine c21.mono ?_); rintro e w' ⟨rfl, k1, hw⟩; (have hw' := hw.symm); subst hw'; clear hw c21) | (go_at_call 120; (with_reducible refine (cji _).mono ?_); rintro e w' ⟨rfl, k2, hw⟩; (have hw' := hw.symm); subst hw'; clear hw))
            go_ret
            exact ⟨⟨_, rfl⟩, (HU.out.drewN _), free', HP, HE.out, HK.out, HL.out.drewN _⟩
        · rw [decide_eq_false h21] at c21
          have cji : ∀ k, Calls Try.prog 120 #[.slice (some ⟨g, 0, none⟩) s.free.length cap, .int .i64 (c1 : Nat), .int .i64 i] (wr.drewN k) fun e w' => e = .returned (.bool (decide (hp free' c1 < hp free' i))) ∧ ∃ m, w' = (wr.drewN k).drewN m := fun k => less_h (hL.drewN k) HF.out hl (by omega) c1 i (by omega) (by omega)
          have csw : ∀ k, Calls Try.prog 121 #[.slice (some ⟨g, 0, none⟩) s.free.length cap, .int .i64 i, .int .i64 (c1 : Nat)] (wr.drewN k) fun e w' => e = .returned (.tuple #[]) ∧ Lay w' sb vr vb vf (s.fr (swp free' i c1)) ∧ Upd (fun k => k = g) (wr.drewN k) w' := fun k => swap_h (hL.drewN k) HF.out hl (by omega) i c1 (by omega) (by omega)
          clear hL hU hp1 hi hkk c7
          by_cases hless : hp free' c1 < hp free' i
          · simp only [decide_eq_true hless] at cji
            have HS : Hid (DownInv (swp free' i c1) n c1) := HI.out.step (by omega) (.inl hc1) (by omega) (fun _ => by rw [hc1]; exact Int.le_refl _) (fun _ => by rw [show 2 * i + 2 = c2 by omega]; omega) hless
            have HQ : Hid (∀ k, n ≤ k → hp (swp free' i c1) k = hp s.free k) := fun k hk => by
              rw [hp_swp _ _ _ _ (by omega) (by omega), if_neg (by omega), if_neg (by omega)]; exact HK.out k hk
            have hci : i < c1 := by omega
            have hcn : c1 < n := by omega
            clear hc1 hc2
            go_wp2_with (first | (go_at_call 120; (with_reducible refine c21.mono ?_); rintro e w' ⟨rfl, k1, hw⟩; (have hw' := hw.symm); subst hw'; clear hw c21) | (go_at_call 120; (with_reducible refine (cji _).mono ?_); rintro e w' ⟨rfl, k2, hw⟩; (have hw' := hw.symm); subst hw'; clear hw) | (go_at_call 121; (with_reducible refine (csw _).mono ?_); rintro e W5 ⟨rfl, hL5, hU5⟩))
            go_roundw
            case rel => exact ⟨c1, swp free' i c1, by go_num, by rw [swp_len]; exact hl, (swp_perm _ _ _ (by omega) (by omega)).trans HP.out, HS.out, by omega, HQ.out, hL5, (HU.out.drewN _).trans' hU5⟩
            case measure => simp [intOf]; omega
          · simp only [decide_eq_false hless] at cji
            have HE : Hid (IsHeap free' n) := HI.out.exit (j := c1) (.inr ⟨fun _ => by rw [hc1]; exact Int.le_refl _, fun _ => by rw [show 2 * i + 2 = c2 by omega]; omega, hless⟩)
            clear hc1 hc2
            go_wp2_with (first | (go_at_call 120; (with_reducible refine c21.mono ?_); rintro e w' ⟨rfl, k1, hw⟩; (have hw' := hw.symm); subst hw'; clear hw c21) | (go_at_call 120; (with_reducible refine (cji _).mono ?_); rintro e w' ⟨rfl, k2, hw⟩; (have hw' := hw.symm); subst hw'; clear hw))
            go_ret
            exact ⟨⟨_, rfl⟩, (HU.out.drewN _), free', HP, HE.out, HK.out, HL.out.drewN _⟩
end
end Go.Proofs.Ytenbjlmomkiknab.W
