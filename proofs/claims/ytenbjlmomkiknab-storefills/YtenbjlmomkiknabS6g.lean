/- Package store: an extent put into the ring. -/
import Derived.Test.YtenbjlmomkiknabS6f
namespace Go.Proofs.Ytenbjlmomkiknab.W
set_option linter.unusedVariables false
/-- an extent put in behind the j-th of the ring -/
def insE (E : List Ex) (j : Nat) (e : Ex) : List Ex := E.take j ++ e :: E.drop j
section
variable {s : Sto} {E : List Ex}
theorem insE_len {j : Nat} (e : Ex) (h : j ≤ E.length) : (insE E j e).length = E.length + 1 := by simp [insE]; omega
theorem insE_get {j : Nat} (e : Ex) (h : j ≤ E.length) (i : Nat) : (ring (insE E j e))[i]? = if i ≤ j then (ring E)[i]? else if i = j + 1 then some e else (ring E)[i - 1]? := by
  cases i with
  | zero => simp [ring]
  | succ i =>
    unfold ring insE
    rw [List.getElem?_cons_succ, List.getElem?_append]
    have hl : (E.take j).length = j := by simp; omega
    rw [hl]
    by_cases h1 : i < j
    · rw [if_pos h1, if_pos (by omega), List.getElem?_cons_succ, List.getElem?_take, if_pos h1]
    · rw [if_neg h1]
      by_cases h2 : i = j
      · subst h2; rw [if_neg (by omega), if_pos rfl]; simp
      · rw [if_neg (by omega), if_neg (by omega), Nat.add_sub_cancel]
        obtain ⟨m, rfl⟩ : ∃ m, i = j + 1 + m := ⟨i - j - 1, by omega⟩
        rw [show j + 1 + m - j = m + 1 by omega, List.getElem?_cons_succ, List.getElem?_drop, show j + 1 + m = (j + m) + 1 by omega, List.getElem?_cons_succ]
theorem linked_get {n bk nx : Nat} {bn bb bx : Blk} (hn : s.get n = some bn) (hb : s.get bk = some bb) (hx : s.get nx = some bx) (h1 : bk ≠ n) (h2 : nx ≠ n) (m : Nat) :
    (s.linked n bk nx).get m = if m = n then some { bn with back := bk, next := nx } else if m = nx then some { (if m = bk then { bb with next := (n : Int) } else bx) with back := n } else if m = bk then some { bb with next := n } else s.get m := by
  have g1 : ∀ m, m ≠ n → (s.linked1 n bk nx).get m = s.get m := fun m hm => get_set_ne _ hm
  have g1n : (s.linked1 n bk nx).get n = some { bn with back := bk, next := nx } := by
    unfold Sto.linked1; rw [getD_of hn]; exact get_set_same hn _
  have e1 : (s.linked1 n bk nx).getD bk = bb := getD_of (by rw [g1 _ h1]; exact hb)
  have g2 : (s.linked2 n bk nx).get bk = some { bb with next := (n : Int) } := by
    unfold Sto.linked2; rw [e1]; exact get_set_same (b := bb) (by rw [g1 _ h1]; exact hb) _
  have g2o : ∀ m, m ≠ bk → (s.linked2 n bk nx).get m = (s.linked1 n bk nx).get m := fun m hm => get_set_ne _ hm
  have g2x : (s.linked2 n bk nx).get nx = some (if nx = bk then { bb with next := (n : Int) } else bx) := by
    by_cases e : nx = bk
    · rw [if_pos e]; subst e; exact g2
    · rw [if_neg e, g2o _ e, g1 _ h2]; exact hx
  have e2 : (s.linked2 n bk nx).getD nx = (if nx = bk then { bb with next := (n : Int) } else bx) := getD_of g2x
  by_cases c1 : m = n
  · rw [if_pos c1]; subst c1
    show ((s.linked2 m bk nx).set nx _).get m = _
    rw [get_set_ne _ h2.symm, g2o _ h1.symm]; exact g1n
  · rw [if_neg c1]
    by_cases c2 : m = nx
    · rw [if_pos c2]; subst c2
      show ((s.linked2 n bk m).set m _).get m = _
      rw [e2]; exact get_set_same g2x _
    · rw [if_neg c2]
      show ((s.linked2 n bk nx).set nx _).get m = _
      rw [get_set_ne _ c2]
      by_cases c3 : m = bk
      · rw [if_pos c3]; subst c3; exact g2
      · rw [if_neg c3, g2o _ c3]; exact g1 _ c1
theorem linked_row (n bk nx : Nat) : (s.linked n bk nx).row = s.row := by unfold Sto.linked Sto.linked2 Sto.linked1; rw [set_row, set_row, set_row]
theorem linked_free (n bk nx : Nat) : (s.linked n bk nx).free = s.free := by unfold Sto.linked Sto.linked2 Sto.linked1; rw [set_free, set_free, set_free]
theorem linked_used (n bk nx : Nat) : (s.linked n bk nx).used = s.used := by unfold Sto.linked Sto.linked2 Sto.linked1; rw [set_used, set_used, set_used]
theorem linked_len (n bk nx : Nat) : (s.linked n bk nx).blks.length = s.blks.length := by unfold Sto.linked Sto.linked2 Sto.linked1; rw [set_len, set_len, set_len]
theorem laid_row (n bk nx p u : Nat) : (s.laid n bk nx p u).row = layRow s.row p u := linked_row _ _ _
theorem laid_free (n bk nx p u : Nat) : (s.laid n bk nx p u).free = s.free := by
  show (Sto.linked _ n bk nx).free = _
  rw [linked_free]; exact set_free _ _ _
theorem laid_used (n bk nx p u : Nat) : (s.laid n bk nx p u).used = s.used := by
  show (Sto.linked _ n bk nx).used = _
  rw [linked_used]; exact set_used _ _ _
theorem laid_len (n bk nx p u : Nat) : (s.laid n bk nx p u).blks.length = s.blks.length := by
  show (Sto.linked _ n bk nx).blks.length = _
  rw [linked_len]; exact set_len _ _ _
theorem laid_get {n bk nx : Nat} {bn bb bx : Blk} (p u : Nat) (hn : s.get n = some bn) (hb : s.get bk = some bb) (hx : s.get nx = some bx) (h1 : bk ≠ n) (h2 : nx ≠ n) (m : Nat) :
    (s.laid n bk nx p u).get m = if m = n then some { bn with pos := p, back := bk, next := nx } else if m = nx then some { (if m = bk then { bb with next := (n : Int) } else bx) with back := n } else if m = bk then some { bb with next := n } else s.get m := by
  have k1 : ({ s.set n { s.getD n with pos := (p : Int) } with row := layRow s.row p u } : Sto).get n = some { bn with pos := (p : Int) } := by
    rw [getD_of hn]; exact get_set_same hn _
  have k2 : ∀ m, m ≠ n → ({ s.set n { s.getD n with pos := (p : Int) } with row := layRow s.row p u } : Sto).get m = s.get m := fun m hm => get_set_ne _ hm
  have := linked_get k1 (by rw [k2 _ h1]; exact hb) (by rw [k2 _ h2]; exact hx) h1 h2 m
  show (Sto.linked _ n bk nx).get m = _
  rw [this]
  by_cases c1 : m = n
  · rw [if_pos c1, if_pos c1]
  · rw [if_neg c1, if_neg c1, k2 _ c1]
theorem layRow_len (row : List Nat) (p u : Nat) : (layRow row p u).length = max row.length (p + u) := by
  unfold layRow longer; rw [setL_len, List.length_append, List.length_replicate]; omega
theorem longer_get (row : List Nat) (e i : Nat) (h : i < row.length) : (longer row e)[i]? = row[i]? := by
  unfold longer; rw [List.getElem?_append_left h]
theorem layRow_out (row : List Nat) (p u a n : Nat) (ha : a + n ≤ row.length) (ho : a + n ≤ p ∨ p + u ≤ a) : seg (layRow row p u) a n = seg row a n := by
  unfold layRow
  rw [seg_setL_out _ _ _ _ _ (by unfold longer; simp; omega) (by simpa using ho)]
  exact seg_ext (fun i hi => longer_get _ _ _ (by omega))
theorem layRow_in (row : List Nat) (p u n : Nat) (hn : n ≤ u) : seg (layRow row p u) p n = List.replicate n 0 := by
  apply List.ext_getElem?
  intro i
  by_cases hi : i < n
  · rw [seg_get _ _ _ _ hi]
    unfold layRow
    rw [setL_get _ _ _ _ (by unfold longer; simp; omega), if_pos (by simp; omega), List.getElem?_replicate, if_pos (by omega), List.getElem?_replicate, if_pos hi]
  · rw [List.getElem?_eq_none (by simp [seg]; omega), List.getElem?_eq_none (by simp; omega)]
theorem layRow_byte (row : List Nat) (p u : Nat) (h : ∀ x ∈ row, x < 256) : ∀ x ∈ layRow row p u, x < 256 := by
  intro x hx
  rcases mem_setL _ _ _ _ hx with g | g
  · unfold longer at g
    rcases List.mem_append.1 g with g | g
    · exact h x g
    · have := (List.mem_replicate.1 g).2; omega
  · have := (List.mem_replicate.1 g).2; omega
theorem rg_inj (hd : ((ring E).map Ex.n).Nodup) {i k : Nat} (hi : i < (ring E).length) (hk : k < (ring E).length) (h : (rg E i).n = (rg E k).n) : i = k := by
  have h1 : ((ring E).map Ex.n)[i]'(by simpa using hi) = (rg E i).n := by
    rw [List.getElem_map]
    have := rg_get hi
    rw [List.getElem?_eq_getElem hi] at this
    rw [Option.some.inj this]
  have h2 : ((ring E).map Ex.n)[k]'(by simpa using hk) = (rg E k).n := by
    rw [List.getElem_map]
    have := rg_get hk
    rw [List.getElem?_eq_getElem hk] at this
    rw [Option.some.inj this]
  have hl : ((ring E).map Ex.n).length = (ring E).length := List.length_map ..
  rcases Nat.lt_trichotomy i k with c | c | c
  · exact absurd (by rw [h1, h2, h]) (List.pairwise_iff_getElem.1 hd i k (by omega) (by omega) c)
  · exact c
  · exact absurd (by rw [h1, h2, h]) (List.pairwise_iff_getElem.1 hd k i (by omega) (by omega) c)
/-- the number at a place of the ring -/
def nm (E : List Ex) (i : Nat) : Nat := ((ring E)[i]?.map Ex.n).getD 0
theorem nm_rg {i : Nat} (h : i < (ring E).length) : nm E i = (rg E i).n := by unfold nm; rw [rg_get h]; rfl
theorem nm_out {i : Nat} (h : (ring E).length ≤ i) : nm E i = 0 := by unfold nm; rw [List.getElem?_eq_none h]; rfl
theorem nm_ins {j : Nat} (e : Ex) (h : j ≤ E.length) (i : Nat) : nm (insE E j e) i = if i ≤ j then nm E i else if i = j + 1 then e.n else nm E (i - 1) := by
  unfold nm
  rw [insE_get e h]
  split
  · rfl
  · split <;> rfl
theorem blkOf_nm (i : Nat) (e : Ex) : blkOf E i e = ⟨decide (0 < i), e.p, e.l, (nm E (if i = 0 then E.length else i - 1) : Nat), (nm E (i + 1) : Nat)⟩ := rfl
theorem insE_num {j : Nat} (e : Ex) : ((ring (insE E j e)).map Ex.n).Perm (e.n :: (ring E).map Ex.n) := by
  unfold ring insE
  simp only [List.map_cons, List.map_append]
  refine List.Perm.trans (List.Perm.cons _ List.perm_middle) ?_
  refine List.Perm.trans (List.Perm.swap _ _ _) ?_
  rw [← List.map_append, List.take_append_drop]
theorem lies_ins {r r' : Nat} (k : Lies E r) {j : Nat} (hj : j ≤ E.length) (e : Ex) (hr : r ≤ r') (he8 : e.p % 8 = 0) (hel : 0 < e.l) (hen : e.n ≠ 0) (hes : e.stop ≤ r') (h1 : (rg E j).stop ≤ e.p) (h2 : j < E.length → e.stop ≤ (rg E (j + 1)).p) : Lies (insE E j e) r' := by
  refine ⟨?_, ?_, ?_⟩
  · intro i a b ha hb
    rw [insE_get e hj] at ha hb
    by_cases c1 : i + 1 ≤ j
    · rw [if_pos (by omega)] at ha
      rw [if_pos c1] at hb
      exact k.1 i a b ha hb
    · rw [if_neg c1] at hb
      by_cases c2 : i = j
      · subst c2
        rw [if_pos (by omega)] at ha
        rw [if_pos rfl] at hb
        cases hb
        rw [← rg_of ha]; exact h1
      · rw [if_neg (by omega)] at hb
        rw [if_neg (by omega)] at ha
        rw [Nat.add_sub_cancel] at hb
        by_cases c3 : i = j + 1
        · subst c3
          rw [if_pos rfl] at ha
          cases ha
          have hlt := (List.getElem?_eq_some_iff.1 hb).1
          rw [← rg_of hb]; exact h2 (by rw [ring_len] at hlt; omega)
        · rw [if_neg c3] at ha
          obtain ⟨m, rfl⟩ : ∃ m, i = m + 1 := ⟨i - 1, by omega⟩
          exact k.1 m a b ha hb
  · intro a ha
    unfold insE at ha
    rcases List.mem_append.1 ha with ha | ha
    · exact k.2.1 a (List.mem_of_mem_take ha)
    · rcases List.mem_cons.1 ha with rfl | ha
      · exact ⟨he8, hel, hen⟩
      · exact k.2.1 a (List.mem_of_mem_drop ha)
  · intro a ha
    rcases List.mem_cons.1 ha with rfl | ha
    · exact Nat.le_trans (k.2.2 _ (List.mem_cons_self ..)) hr
    · unfold insE at ha
      rcases List.mem_append.1 ha with ha | ha
      · exact Nat.le_trans (k.2.2 a (List.mem_cons_of_mem _ (List.mem_of_mem_take ha))) hr
      · rcases List.mem_cons.1 ha with rfl | ha
        · exact hes
        · exact Nat.le_trans (k.2.2 a (List.mem_cons_of_mem _ (List.mem_of_mem_drop ha))) hr
end
end Go.Proofs.Ytenbjlmomkiknab.W
