/- Package store: the ring behind lay; what an extent holds. -/
import Derived.Test.YtenbjlmomkiknabS6g
namespace Go.Proofs.Ytenbjlmomkiknab.W
set_option linter.unusedVariables false
section
variable {s : Sto} {E : List Ex}
theorem stop_mod {r : Nat} (k : Lies E r) {j : Nat} (hj : j < (ring E).length) : (rg E j).stop % 8 = 0 := by
  cases j with
  | zero => show (0 + up8N 0) % 8 = 0; rw [Nat.zero_add]; exact up8N_mod 0
  | succ j =>
    have h1 := (k.2.1 _ (rg_memE hj)).1
    have h2 := up8N_mod (rg E (j + 1)).l
    unfold Ex.stop
    omega
theorem numE_mem {i : Nat} (hi : i < (ring E).length) : (rg E i).n ∈ numE E := List.mem_map_of_mem (rg_mem hi)
theorem ring_laid (g : Ring s E) {j : Nat} (hj : j ≤ E.length) {n l : Nat} (hn : n ∉ numE E) (hl : 0 < l) (hg : s.get n = some ⟨true, 0, l, 0, 0⟩) (hroom : j < E.length → (rg E j).stop + up8N l ≤ (rg E (j + 1)).p) :
    Ring (s.laid n (nm E j) (nm E (j + 1)) (rg E j).stop (up8N l)) (insE E j ⟨n, (rg E j).stop, l⟩) := by
  have hjl : j < (ring E).length := by rw [ring_len]; omega
  have hn0 : n ≠ 0 := by rintro rfl; exact hn (by show 0 ∈ (ring E).map Ex.n; exact List.mem_cons_self ..)
  have bkj : nm E j = (rg E j).n := nm_rg hjl
  have hbk : nm E j ≠ n := by rw [bkj]; rintro e; exact hn (e ▸ numE_mem hjl)
  obtain ⟨jn, hjn⟩ : ∃ jn, jn = if j = E.length then 0 else j + 1 := ⟨_, rfl⟩
  have hjnl : jn < (ring E).length := by rw [hjn, ring_len]; split <;> omega
  have nxj : nm E (j + 1) = (rg E jn).n := by
    by_cases c : j = E.length
    · rw [nm_out (by rw [ring_len]; omega), hjn, if_pos c]; rfl
    · rw [hjn, if_neg c]; exact nm_rg (by rw [ring_len]; omega)
  have hnx : nm E (j + 1) ≠ n := by rw [nxj]; rintro e; exact hn (e ▸ numE_mem hjnl)
  have gb : s.get (nm E j) = some (blkOf E j (rg E j)) := by rw [bkj]; exact g.get j _ (rg_get hjl)
  have gx : s.get (nm E (j + 1)) = some (blkOf E jn (rg E jn)) := by rw [nxj]; exact g.get jn _ (rg_get hjnl)
  have key := laid_get (rg E j).stop (up8N l) hg gb gx hbk hnx
  have rl := layRow_len s.row (rg E j).stop (up8N l)
  have inj : ∀ {a b : Nat}, a < (ring E).length → b < (ring E).length → (rg E a).n = (rg E b).n → a = b := fun ha hb h => rg_inj g.nodup ha hb h
  have old : ∀ k, k < (ring E).length → (s.laid n (nm E j) (nm E (j + 1)) (rg E j).stop (up8N l)).get (rg E k).n = some ⟨decide (0 < k), (rg E k).p, (rg E k).l, if k = jn then (n : Int) else (nm E (if k = 0 then E.length else k - 1) : Nat), if k = j then (n : Int) else (nm E (k + 1) : Nat)⟩ := by
    intro k hk
    have ne : (rg E k).n ≠ n := fun e => hn (e ▸ numE_mem hk)
    rw [key, if_neg ne, nxj, bkj]
    have e1 : ((rg E k).n = (rg E jn).n) ↔ k = jn := ⟨inj hk hjnl, fun e => by rw [e]⟩
    have e2 : ((rg E k).n = (rg E j).n) ↔ k = j := ⟨inj hk hjl, fun e => by rw [e]⟩
    have e3 : s.get (rg E k).n = some (blkOf E k (rg E k)) := g.get k _ (rg_get hk)
    simp only [e1, e2, e3, blkOf_nm]
    by_cases c1 : k = jn
    · simp only [if_pos c1]
      by_cases c2 : k = j
      · simp only [if_pos c2]; rw [← c2]
      · simp only [if_neg c2]; rw [← c1]
    · simp only [if_neg c1]
      by_cases c2 : k = j
      · simp only [if_pos c2]; rw [← c2]
      · simp only [if_neg c2]
  have hnE : ∀ i, nm (insE E j ⟨n, (rg E j).stop, l⟩) i = if i ≤ j then nm E i else if i = j + 1 then n else nm E (i - 1) := nm_ins _ hj
  refine ⟨?_, ?_, ?_, ?_, ?_, ?_⟩
  · exact (insE_num _).nodup_iff.2 (List.nodup_cons.2 ⟨hn, g.nodup⟩)
  · rw [laid_row, rl]
    refine lies_ins g.lies hj _ (by omega) (stop_mod g.lies hjl) hl hn0 ?_ (Nat.le_refl _) hroom
    show (rg E j).stop + up8N l ≤ _
    omega
  · intro i e he
    rw [insE_get _ hj] at he
    rw [blkOf_nm, hnE, hnE, insE_len _ hj]
    by_cases c1 : i ≤ j
    · rw [if_pos c1] at he
      have hil := (List.getElem?_eq_some_iff.1 he).1
      rw [← rg_of he, old i hil]
      congr 2
      · by_cases c2 : i = jn
        · have : i = 0 ∧ j = E.length := by
            rw [hjn] at c2; split at c2
            · exact ⟨c2, by assumption⟩
            · omega
          rw [if_pos c2, this.1, if_pos rfl, if_neg (by omega), if_pos (by omega)]
        · rw [if_neg c2]
          by_cases c3 : i = 0
          · have : j ≠ E.length := by rintro rfl; exact c2 (by rw [c3, hjn, if_pos rfl])
            rw [c3, if_pos rfl, if_pos rfl, if_neg (by omega), if_neg (by omega)]; rfl
          · rw [if_neg c3, if_neg c3, if_pos (by omega)]
      · by_cases c2 : i = j
        · rw [if_pos c2, if_neg (by omega), if_pos (by omega)]
        · rw [if_neg c2, if_pos (by omega)]
    · rw [if_neg c1] at he
      by_cases c2 : i = j + 1
      · rw [if_pos c2] at he
        cases he
        show (s.laid n _ _ _ _).get n = _
        rw [key, if_pos rfl, c2, if_neg (show ¬ j + 1 = 0 by omega), Nat.add_sub_cancel, if_pos (Nat.le_refl j), if_neg (show ¬ j + 1 + 1 ≤ j by omega), if_neg (show ¬ j + 1 + 1 = j + 1 by omega), Nat.add_sub_cancel]
        simp
      · rw [if_neg c2] at he
        have hil := (List.getElem?_eq_some_iff.1 he).1
        have hil' := hil
        rw [ring_len] at hil'
        rw [← rg_of he, old (i - 1) hil]
        have d : decide (0 < i - 1) = decide (0 < i) := by
          have h1 : 0 < i - 1 := by omega
          have h2 : 0 < i := by omega
          rw [decide_eq_true h1, decide_eq_true h2]
        rw [d]
        congr 2
        · rw [if_neg (show ¬ i = 0 by omega), if_neg (show ¬ i - 1 ≤ j by omega)]
          by_cases c3 : i - 1 = jn
          · have : i - 1 = j + 1 := by
              rw [hjn] at c3; split at c3 <;> omega
            rw [if_pos c3, if_pos this]
          · have : i - 1 ≠ j + 1 := by
              intro e; apply c3; rw [hjn, if_neg (by omega)]; exact e
            rw [if_neg c3, if_neg this, if_neg (by omega)]
        · rw [if_neg (show ¬ i - 1 = j by omega), if_neg (by omega), if_neg (by omega), Nat.add_sub_cancel, show i - 1 + 1 = i by omega]
  · intro x hx
    rw [laid_row] at hx
    exact layRow_byte _ _ _ g.byte x hx
  · refine ⟨⟨n, (rg E j).stop, l⟩, ?_, rfl⟩
    exact List.mem_of_getElem? (i := j + 1) (by rw [insE_get _ hj, if_neg (by omega), if_pos rfl])
  · rw [laid_row, rl]
    have h1 := g.row8
    have h2 := stop_mod g.lies hjl
    have h3 := up8N_mod l
    rcases Nat.le_total s.row.length ((rg E j).stop + up8N l) with c | c
    · rw [Nat.max_eq_right c]; omega
    · rw [Nat.max_eq_left c]; omega
/-- what the extents of the ring hold is left -/
theorem laid_bytes (g : Ring s E) {j : Nat} (hj : j ≤ E.length) {n l : Nat} (hroom : j < E.length → (rg E j).stop + up8N l ≤ (rg E (j + 1)).p) (k : Nat) (hk : k < (ring E).length) (m o : Nat) : seg (s.laid n m o (rg E j).stop (up8N l)).row (rg E k).p (rg E k).l = seg s.row (rg E k).p (rg E k).l := by
  rw [laid_row]
  have hs := g.lies.2.2 _ (rg_mem hk)
  have hu := up8N_ge (rg E k).l
  unfold Ex.stop at hs
  have hjl : j < (ring E).length := by rw [ring_len]; omega
  refine layRow_out _ _ _ _ _ (by omega) ?_
  by_cases c : k ≤ j
  · left
    by_cases e : k = j
    · subst e; unfold Ex.stop; omega
    · have := rg_lt g.lies (i := k) (j := j) (by omega) hjl
      unfold Ex.stop at *; omega
  · right
    rw [ring_len] at hk
    have h1 := hroom (by omega)
    by_cases e : k = j + 1
    · subst e; exact h1
    · have := rg_lt g.lies (i := j + 1) (j := k) (by omega) (by rw [ring_len]; omega)
      unfold Ex.stop at *; omega
end
end Go.Proofs.Ytenbjlmomkiknab.W
