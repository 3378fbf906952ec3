/- Package store: moved together, extents have their bytes still. -/
import Derived.Test.YtenbjlmomkiknabS6d
namespace Go.Proofs.Ytenbjlmomkiknab.W
set_option linter.unusedVariables false
theorem seg_ext {r r' : List Nat} {a b n : Nat} (h : ∀ i, i < n → r[a + i]? = r'[b + i]?) : seg r a n = seg r' b n := by
  apply List.ext_getElem?
  intro i
  by_cases hi : i < n
  · rw [seg_get _ _ _ _ hi, seg_get _ _ _ _ hi]; exact h i hi
  · rw [List.getElem?_eq_none (by simp [seg]; omega), List.getElem?_eq_none (by simp [seg]; omega)]
theorem seg_setL_in (row : List Nat) (o : Nat) (vs : List Nat) (h : o + vs.length ≤ row.length) : seg (setL row o vs) o vs.length = vs := by
  apply List.ext_getElem?
  intro i
  by_cases hi : i < vs.length
  · rw [seg_get _ _ _ _ hi, setL_get _ _ _ _ h, if_pos (by omega), Nat.add_sub_cancel_left]
  · rw [List.getElem?_eq_none (by simp [seg]; omega), List.getElem?_eq_none (by omega)]
theorem seg_setL_out (row : List Nat) (o : Nat) (vs : List Nat) (a n : Nat) (h : o + vs.length ≤ row.length) (ho : a + n ≤ o ∨ o + vs.length ≤ a) : seg (setL row o vs) a n = seg row a n :=
  seg_ext (fun i hi => by rw [setL_get _ _ _ _ h, if_neg (by omega)])
theorem seg_take (row : List Nat) (m a n : Nat) (h : a + n ≤ m) : seg (row.take m) a n = seg row a n :=
  seg_ext (fun i hi => by rw [List.getElem?_take, if_pos (by omega)])
section
variable {s : Sto} {E : List Ex}
theorem rg_lt {r : Nat} (k : Lies E r) {i j : Nat} (hij : i < j) (hj : j < (ring E).length) : (rg E i).stop ≤ (rg E j).p := by
  induction j with
  | zero => omega
  | succ j ih =>
    have h1 := rg_succ k hj
    by_cases e : i = j
    · rw [e]; exact h1
    · have h2 := ih (by omega) (by omega)
      unfold Ex.stop at *
      omega
theorem enE_mono {i j : Nat} (h : i ≤ j) : enE E i ≤ enE E j := by
  induction j with
  | zero => have : i = 0 := by omega
            rw [this]; exact Nat.le_refl _
  | succ j ih =>
    by_cases e : i = j + 1
    · rw [e]; exact Nat.le_refl _
    · have := ih (by omega)
      show _ ≤ enE E j + up8N (rg E j).l
      omega
theorem up8N_ge (l : Nat) : l ≤ up8N l := by unfold up8N; omega
theorem up8N_mod (l : Nat) : up8N l % 8 = 0 := by unfold up8N; omega
theorem enE_mod (i : Nat) : enE E i % 8 = 0 := by
  induction i with
  | zero => rfl
  | succ i ih =>
    show (enE E i + up8N (rg E i).l) % 8 = 0
    have := up8N_mod (rg E i).l
    omega
abbrev pkE (s : Sto) (E : List Ex) : Nat → Sto := packN s (numE E) (fun i => blkOf E i (rg E i)) (fun i => (rg E i).p) (fun i => (rg E i).l) (enE E)
theorem pack_bytes (g : Good s E) (i : Nat) (hi : i ≤ (ring E).length) : (∀ j, i ≤ j → j < (ring E).length → seg (pkE s E i).row (rg E j).p (rg E j).l = seg s.row (rg E j).p (rg E j).l) ∧ (∀ j, j < i → seg (pkE s E i).row (enE E j) (rg E j).l = seg s.row (rg E j).p (rg E j).l) := by
  induction i with
  | zero => exact ⟨fun _ _ _ => rfl, fun j h => absurd h (by omega)⟩
  | succ i ih =>
    obtain ⟨h1, h2⟩ := ih (by omega)
    have hrl : (pkE s E i).row.length = s.row.length := packN_row i
    have hst := g.lies.2.2 _ (rg_mem (E := E) (i := i) (by omega))
    have hen := enE_le g.lies (i := i) (by omega)
    have hup := up8N_ge (rg E i).l
    unfold Ex.stop at hst
    have hlen : (seg (pkE s E i).row (rg E i).p (rg E i).l).length = (rg E i).l := seg_len _ _ _ (by omega)
    have hrow : (pkE s E (i + 1)).row = setL (pkE s E i).row (enE E i) (seg (pkE s E i).row (rg E i).p (rg E i).l) := rfl
    refine ⟨fun j hj hjl => ?_, fun j hj => ?_⟩
    · have hlt := rg_lt g.lies (i := i) (j := j) (by omega) hjl
      unfold Ex.stop at hlt
      rw [hrow, seg_setL_out _ _ _ _ _ (by omega) (.inr (by omega))]
      exact h1 j (by omega) hjl
    · rw [hrow]
      by_cases e : j = i
      · subst e
        have := seg_setL_in (pkE s E j).row (enE E j) (seg (pkE s E j).row (rg E j).p (rg E j).l) (by omega)
        rw [hlen] at this
        rw [this]
        exact h1 j (Nat.le_refl _) (by omega)
      · have hm := enE_mono (E := E) (i := j + 1) (j := i) (by omega)
        have hu := up8N_ge (rg E j).l
        have he : enE E (j + 1) = enE E j + up8N (rg E j).l := rfl
        rw [seg_setL_out _ _ _ _ _ (by omega) (.inl (by omega))]
        exact h2 j (by omega)
/-- the extents, moved together -/
def packE (E : List Ex) : List Ex := (List.range E.length).map (fun i => ⟨(rg E (i + 1)).n, enE E (i + 1), (rg E (i + 1)).l⟩)
theorem packE_len : (packE E).length = E.length := by simp [packE]
theorem packE_get {i : Nat} (h : i < (ring E).length) : (ring (packE E))[i]? = some ⟨(rg E i).n, enE E i, (rg E i).l⟩ := by
  cases i with
  | zero => rfl
  | succ i =>
    unfold ring packE
    rw [List.getElem?_cons_succ, List.getElem?_map, List.getElem?_range (by rw [ring_len] at h; omega)]
    rfl
theorem packE_num : numE (packE E) = numE E := by
  apply List.ext_getElem?
  intro i
  unfold numE
  rw [List.getElem?_map, List.getElem?_map]
  by_cases h : i < (ring E).length
  · rw [packE_get h, rg_get h]; rfl
  · rw [List.getElem?_eq_none (by rw [ring_len, packE_len]; rw [ring_len] at h; omega), List.getElem?_eq_none (by omega)]
theorem packE_rg {i : Nat} (h : i < (ring E).length) : rg (packE E) i = ⟨(rg E i).n, enE E i, (rg E i).l⟩ := rg_of (packE_get h)
end
end Go.Proofs.Ytenbjlmomkiknab.W
