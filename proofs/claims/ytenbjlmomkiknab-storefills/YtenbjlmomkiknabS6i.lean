/- Package store: an extent taken out of the ring; Good behind Give. -/
import Derived.Test.YtenbjlmomkiknabS6h
namespace Go.Proofs.Ytenbjlmomkiknab.W
set_option linter.unusedVariables false
section
variable {s : Sto} {E : List Ex}
theorem del_get {j : Nat} (h : j < E.length) (i : Nat) : (ring (E.eraseIdx j))[i]? = if i ≤ j then (ring E)[i]? else (ring E)[i + 1]? := by
  cases i with
  | zero => simp [ring]
  | succ i =>
    unfold ring
    rw [List.getElem?_cons_succ, List.getElem?_eraseIdx, List.getElem?_cons_succ, List.getElem?_cons_succ]
    by_cases c : i < j
    · rw [if_pos c, if_pos (by omega)]
    · rw [if_neg c, if_neg (by omega)]
theorem del_len {j : Nat} (h : j < E.length) : (E.eraseIdx j).length = E.length - 1 := List.length_eraseIdx_of_lt h
theorem nm_del {j : Nat} (h : j < E.length) (i : Nat) : nm (E.eraseIdx j) i = if i ≤ j then nm E i else nm E (i + 1) := by
  unfold nm; rw [del_get h]; split <;> rfl
theorem lies_del {r : Nat} (k : Lies E r) {j : Nat} (hj : j < E.length) : Lies (E.eraseIdx j) r := by
  refine ⟨?_, fun e he => k.2.1 e (List.mem_of_mem_eraseIdx he), ?_⟩
  · intro i a b ha hb
    rw [del_get hj] at ha hb
    by_cases c1 : i + 1 ≤ j
    · rw [if_pos (by omega)] at ha
      rw [if_pos c1] at hb
      exact k.1 i a b ha hb
    · rw [if_neg c1] at hb
      by_cases c2 : i = j
      · subst c2
        rw [if_pos (by omega)] at ha
        have h2 := (List.getElem?_eq_some_iff.1 hb).1
        have := rg_lt k (i := i) (j := i + 1 + 1) (by omega) h2
        rw [rg_of ha, rg_of hb] at this
        exact this
      · rw [if_neg (by omega)] at ha
        exact k.1 (i + 1) a b ha hb
  · intro e he
    rcases List.mem_cons.1 he with rfl | he
    · exact k.2.2 _ (List.mem_cons_self ..)
    · exact k.2.2 _ (List.mem_cons_of_mem _ (List.mem_of_mem_eraseIdx he))
theorem unlinked_get {n bk nx : Nat} {bb bx : Blk} (hb : s.get bk = some bb) (hx : s.get nx = some bx) (m : Nat) :
    (s.unlinked n bk nx).get m = if m = nx then some { (if m = bk then { bb with next := (nx : Int) } else bx) with back := bk } else if m = bk then some { bb with next := nx } else s.get m := by
  have e1 : s.getD bk = bb := getD_of hb
  have g2 : (s.un1 bk nx).get bk = some { bb with next := (nx : Int) } := by
    unfold Sto.un1; rw [e1]; exact get_set_same hb _
  have g2o : ∀ m, m ≠ bk → (s.un1 bk nx).get m = s.get m := fun m hm => get_set_ne _ hm
  have g2x : (s.un1 bk nx).get nx = some (if nx = bk then { bb with next := (nx : Int) } else bx) := by
    by_cases e : nx = bk
    · rw [if_pos e]; subst e; exact g2
    · rw [if_neg e, g2o _ e]; exact hx
  have e2 : (s.un1 bk nx).getD nx = (if nx = bk then { bb with next := (nx : Int) } else bx) := getD_of g2x
  show ((s.un1 bk nx).set nx _).get m = _
  by_cases c2 : m = nx
  · rw [if_pos c2]; subst c2
    rw [e2]; exact get_set_same g2x _
  · rw [if_neg c2, get_set_ne _ c2]
    by_cases c3 : m = bk
    · rw [if_pos c3]; subst c3; exact g2
    · rw [if_neg c3]; exact g2o _ c3
theorem unlinked_row (n bk nx : Nat) : (s.unlinked n bk nx).row = s.row := by
  show (s.un2 bk nx).row = _
  unfold Sto.un2 Sto.un1; rw [set_row, set_row]
theorem unlinked_free (n bk nx : Nat) : (s.unlinked n bk nx).free = s.free := by
  show (s.un2 bk nx).free = _
  unfold Sto.un2 Sto.un1; rw [set_free, set_free]
theorem unlinked_used (n bk nx : Nat) : (s.unlinked n bk nx).used = s.used := by
  show (s.un2 bk nx).used = _
  unfold Sto.un2 Sto.un1; rw [set_used, set_used]
theorem unlinked_len (n bk nx : Nat) : (s.unlinked n bk nx).blks.length = s.blks.length := by
  show (s.un2 bk nx).blks.length = _
  unfold Sto.un2 Sto.un1; rw [set_len, set_len]
theorem ring_unlinked (g : Ring s E) {j : Nat} (hj : j < E.length) : Ring (s.unlinked (nm E (j + 1)) (nm E j) (nm E (j + 2))) (E.eraseIdx j) := by
  have hjl : j < (ring E).length := by rw [ring_len]; omega
  have hjl1 : j + 1 < (ring E).length := by rw [ring_len]; omega
  have bkj : nm E j = (rg E j).n := nm_rg hjl
  obtain ⟨jn, hjn⟩ : ∃ jn, jn = if j + 1 = E.length then 0 else j + 2 := ⟨_, rfl⟩
  have hjnl : jn < (ring E).length := by rw [hjn, ring_len]; split <;> omega
  have nxj : nm E (j + 2) = (rg E jn).n := by
    by_cases c : j + 1 = E.length
    · rw [nm_out (by rw [ring_len]; omega), hjn, if_pos c]; rfl
    · rw [hjn, if_neg c]; exact nm_rg (by rw [ring_len]; omega)
  have gb : s.get (nm E j) = some (blkOf E j (rg E j)) := by rw [bkj]; exact g.get j _ (rg_get hjl)
  have gx : s.get (nm E (j + 2)) = some (blkOf E jn (rg E jn)) := by rw [nxj]; exact g.get jn _ (rg_get hjnl)
  have key := unlinked_get (n := nm E (j + 1)) gb gx
  have inj : ∀ {a b : Nat}, a < (ring E).length → b < (ring E).length → (rg E a).n = (rg E b).n → a = b := fun ha hb h => rg_inj g.nodup ha hb h
  have old : ∀ k, k < (ring E).length → (s.unlinked (nm E (j + 1)) (nm E j) (nm E (j + 2))).get (rg E k).n = some ⟨decide (0 < k), (rg E k).p, (rg E k).l, if k = jn then (nm E j : Nat) else (nm E (if k = 0 then E.length else k - 1) : Nat), if k = j then (nm E (j + 2) : Nat) else (nm E (k + 1) : Nat)⟩ := by
    intro k hk
    have e1 : ((rg E k).n = nm E (j + 2)) ↔ k = jn := by rw [nxj]; exact ⟨inj hk hjnl, fun e => by rw [e]⟩
    have e2 : ((rg E k).n = nm E j) ↔ k = j := by rw [bkj]; exact ⟨inj hk hjl, fun e => by rw [e]⟩
    have e3 : s.get (rg E k).n = some (blkOf E k (rg E k)) := g.get k _ (rg_get hk)
    rw [key]
    simp only [e1, e2, e3, blkOf_nm]
    by_cases c1 : k = jn
    · simp only [if_pos c1]
      by_cases c2 : k = j
      · simp only [if_pos c2]; rw [← c2]
      · simp only [if_neg c2]; rw [← c1]
    · simp only [if_neg c1]
      by_cases c2 : k = j
      · simp only [if_pos c2]; rw [← c2]
      · simp only [if_neg c2]
  refine ⟨?_, ?_, ?_, ?_, ?_, ?_⟩
  · have : ((ring (E.eraseIdx j)).map Ex.n).Sublist ((ring E).map Ex.n) := ((List.eraseIdx_sublist E j).cons_cons front).map Ex.n
    exact g.nodup.sublist this
  · rw [unlinked_row]; exact lies_del g.lies hj
  · intro i e he
    rw [del_get hj] at he
    rw [blkOf_nm, nm_del hj, nm_del hj, del_len hj]
    by_cases c1 : i ≤ j
    · rw [if_pos c1] at he
      have hil := (List.getElem?_eq_some_iff.1 he).1
      rw [← rg_of he, old i hil]
      congr 2
      · by_cases c2 : i = jn
        · have : i = 0 ∧ j + 1 = E.length := by
            rw [hjn] at c2; split at c2
            · exact ⟨c2, by assumption⟩
            · omega
          rw [if_pos c2, this.1, if_pos rfl, if_pos (by omega), show E.length - 1 = j by omega]
        · rw [if_neg c2]
          by_cases c3 : i = 0
          · have : j + 1 ≠ E.length := by intro h; exact c2 (by rw [c3, hjn, if_pos h])
            rw [c3, if_pos rfl, if_pos rfl, if_neg (by omega), show E.length - 1 + 1 = E.length by omega]
          · rw [if_neg c3, if_neg c3, if_pos (by omega)]
      · by_cases c2 : i = j
        · rw [if_pos c2, if_neg (by omega), c2]
        · rw [if_neg c2, if_pos (by omega)]
    · rw [if_neg c1] at he
      have hil := (List.getElem?_eq_some_iff.1 he).1
      have hil' := hil
      rw [ring_len] at hil'
      rw [← rg_of he, old (i + 1) hil]
      have d : decide (0 < i + 1) = decide (0 < i) := by
        have h1 : 0 < i + 1 := by omega
        have h2 : 0 < i := by omega
        rw [decide_eq_true h1, decide_eq_true h2]
      rw [d]
      congr 2
      · rw [if_neg (show ¬ i = 0 by omega)]
        by_cases c3 : i + 1 = jn
        · have : i = j + 1 := by
            rw [hjn] at c3; split at c3 <;> omega
          rw [if_pos c3, if_pos (show i - 1 ≤ j by omega), show i - 1 = j by omega]
        · have : i ≠ j + 1 := by
            intro e; apply c3; rw [hjn, if_neg (by omega)]; omega
          rw [if_neg c3, if_neg (show ¬ i + 1 = 0 by omega), if_neg (show ¬ i - 1 ≤ j by omega), show i - 1 + 1 = i + 1 - 1 by omega]
      · rw [if_neg (show ¬ i + 1 = j by omega), if_neg (by omega)]
  · intro x hx
    rw [unlinked_row] at hx
    exact g.byte x hx
  · obtain ⟨e, he, hh⟩ := g.hand
    show ∃ e ∈ ring (E.eraseIdx j), (if s.hand = (nm E (j + 1) : Nat) then ((nm E j : Nat) : Int) else s.hand) = (e.n : Nat)
    by_cases c : s.hand = (nm E (j + 1) : Nat)
    · rw [if_pos c]
      refine ⟨rg E j, List.mem_of_getElem? (i := j) (by rw [del_get hj, if_pos (Nat.le_refl _)]; exact rg_get hjl), by rw [bkj]⟩
    · rw [if_neg c]
      obtain ⟨i, hi, rfl⟩ := List.mem_iff_getElem.1 he
      have hi' : (ring E)[i]? = some (ring E)[i] := List.getElem?_eq_getElem hi
      have hne : i ≠ j + 1 := by
        rintro rfl
        apply c
        rw [hh, nm_rg hjl1, rg_of hi']
      refine ⟨_, ?_, hh⟩
      by_cases c2 : i ≤ j
      · exact List.mem_of_getElem? (i := i) (by rw [del_get hj, if_pos c2]; exact hi')
      · exact List.mem_of_getElem? (i := i - 1) (by rw [del_get hj, if_neg (by omega), show i - 1 + 1 = i by omega]; exact hi')
  · rw [unlinked_row]; exact g.row8
theorem Ring.congr {t : Sto} (g : Ring s E) (hg : ∀ m ∈ numE E, t.get m = s.get m) (hr : t.row = s.row) (hh : t.hand = s.hand) : Ring t E :=
  ⟨g.nodup, by rw [hr]; exact g.lies, fun i e he => by rw [hg _ (List.mem_map_of_mem (List.mem_of_getElem? he))]; exact g.get i e he, by rw [hr]; exact g.byte, by rw [hh]; exact g.hand, by rw [hr]; exact g.row8⟩
end
end Go.Proofs.Ytenbjlmomkiknab.W
