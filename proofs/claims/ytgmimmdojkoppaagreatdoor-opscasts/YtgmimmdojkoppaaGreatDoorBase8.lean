import Derived.Test.YtgmimmdojkoppaaGreatDoorBase7
/- Package store: the ring alone, and that moving together keeps it. -/
namespace Go.Proofs.YtgmimmdojkoppaaGreatDoor.W
set_option linter.unusedVariables false
/-- what Good says of the ring -/
structure Ring (s : Sto) (E : List Ex) : Prop where
  nodup : ((ring E).map Ex.n).Nodup
  lies : Lies E s.row.length
  get : ∀ i e, (ring E)[i]? = some e → s.get e.n = some (blkOf E i e)
  byte : ∀ x ∈ s.row, x < 256
  hand : ∃ e ∈ ring E, s.hand = (e.n : Nat)
  row8 : s.row.length % 8 = 0
/-- what Good says of the rest, R being whether an Id is in the ring -/
structure Tab (s : Sto) (E : List Ex) : Prop where
  zero : ∀ id b, s.blks[id]? = some b → id + 1 ∉ (ring E).map Ex.n → b = noBlk ∨ b = ⟨true, 0, 0, 0, 0⟩
  heap : IsHeap s.free s.free.length
  nodupF : s.free.Nodup
  free : ∀ x : Int, x ∈ s.free ↔ ∃ id : Nat, x = id ∧ s.blks[id]? = some noBlk
  used : s.used = ((E.map (fun e => up8N e.l)).foldr (· + ·) 0 : Nat)
theorem Good.rng {s : Sto} {E : List Ex} (g : Good s E) : Ring s E := ⟨g.nodup, g.lies, g.get, g.byte, g.hand, g.row8⟩
theorem Good.tab {s : Sto} {E : List Ex} (g : Good s E) : Tab s E := ⟨g.zero, g.heap, g.nodupF, g.free, g.used⟩
theorem Ring.good {s : Sto} {E : List Ex} (g : Ring s E) (t : Tab s E) : Good s E := ⟨g.nodup, g.lies, g.get, g.byte, g.hand, t.zero, t.heap, t.nodupF, t.free, t.used, g.row8⟩
section
variable {s : Sto} {E : List Ex}
theorem ring_pk (g : Ring s E) : Pk s (numE E) (fun i => blkOf E i (rg E i)) (fun i => (rg E i).p) (fun i => (rg E i).l) (fun i => up8N (rg E i).l) (enE E) := by
  have hl : (numE E).length = (ring E).length := by rw [numE_len, ring_len]
  refine ⟨by rw [numE_len]; omega, rfl, g.nodup, ?_, ?_, fun i hi => rfl, fun i hi => rfl, fun i hi => up8N_eq _, rfl, fun i hi => rfl, fun i hi => enE_le g.lies (by omega), fun i hi => ?_, ⟨rfl, rfl⟩, fun i h0 hi => ?_⟩
  · intro i n h
    obtain ⟨h1, rfl⟩ := numE_get h
    exact g.get i _ (rg_get h1)
  · intro i hi
    show (((ring E)[i + 1]?.map Ex.n).getD 0 : Nat) = (((numE E)[i + 1]?.getD 0 : Nat) : Int)
    rw [numE, List.getElem?_map]
  · exact g.lies.2.2 _ (rg_mem (by omega))
  · obtain ⟨m, rfl⟩ : ∃ m, i = m + 1 := ⟨i - 1, by omega⟩
    exact (g.lies.2.1 _ (rg_memE (by omega))).2.1
theorem ring_bytes (g : Ring s E) (i : Nat) (hi : i ≤ (ring E).length) : (∀ j, i ≤ j → j < (ring E).length → seg (pkE s E i).row (rg E j).p (rg E j).l = seg s.row (rg E j).p (rg E j).l) ∧ (∀ j, j < i → seg (pkE s E i).row (enE E j) (rg E j).l = seg s.row (rg E j).p (rg E j).l) := by
  induction i with
  | zero => exact ⟨fun _ _ _ => rfl, fun j h => absurd h (by omega)⟩
  | succ i ih =>
    obtain ⟨h1, h2⟩ := ih (by omega)
    have hrl : (pkE s E i).row.length = s.row.length := packN_row i
    have hst := g.lies.2.2 _ (rg_mem (E := E) (i := i) (by omega))
    have hen := enE_le g.lies (i := i) (by omega)
    have hup := up8N_ge (rg E i).l
    unfold Ex.stop at hst
    have hlen : (seg (pkE s E i).row (rg E i).p (rg E i).l).length = (rg E i).l := seg_len _ _ _ (by omega)
    have hrow : (pkE s E (i + 1)).row = setL (pkE s E i).row (enE E i) (seg (pkE s E i).row (rg E i).p (rg E i).l) := rfl
    refine ⟨fun j hj hjl => ?_, fun j hj => ?_⟩
    · have hlt := rg_lt g.lies (i := i) (j := j) (by omega) hjl
      unfold Ex.stop at hlt
      rw [hrow, seg_setL_out _ _ _ _ _ (by omega) (.inr (by omega))]
      exact h1 j (by omega) hjl
    · rw [hrow]
      by_cases e : j = i
      · subst e
        have := seg_setL_in (pkE s E j).row (enE E j) (seg (pkE s E j).row (rg E j).p (rg E j).l) (by omega)
        rw [hlen] at this
        rw [this]
        exact h1 j (Nat.le_refl _) (by omega)
      · have hm := enE_mono (E := E) (i := j + 1) (j := i) (by omega)
        have hu := up8N_ge (rg E j).l
        have he : enE E (j + 1) = enE E j + up8N (rg E j).l := rfl
        rw [seg_setL_out _ _ _ _ _ (by omega) (.inl (by omega))]
        exact h2 j (by omega)
/-- the store, its extents moved together -/
abbrev pkd (s : Sto) (E : List Ex) : Sto := packedSto s (numE E) (fun i => blkOf E i (rg E i)) (fun i => (rg E i).p) (fun i => (rg E i).l) (enE E)
theorem numlen : (numE E).length = (ring E).length := by rw [numE_len, ring_len]
theorem pkd_row (g : Ring s E) : (pkd s E).row.length = enE E (ring E).length := by
  have h1 := (ring_pk g).end_le
  have h2 : (pkE s E (numE E).length).row.length = s.row.length := packN_row _
  show ((pkE s E (numE E).length).row.take (enE E (numE E).length)).length = _
  rw [List.length_take, h2, ← numlen]
  omega
theorem packE_map (i : Nat) : (ring (packE E))[i]?.map Ex.n = (ring E)[i]?.map Ex.n := by
  have := congrArg (fun l => l[i]?) (packE_num (E := E))
  unfold numE at this
  simpa [List.getElem?_map] using this
theorem blkOf_pack (i : Nat) : blkOf (packE E) i ⟨(rg E i).n, enE E i, (rg E i).l⟩ = { blkOf E i (rg E i) with pos := (enE E i : Nat) } := by
  unfold blkOf
  rw [packE_map, packE_map, packE_len]
theorem enE_le_all {i : Nat} (h : i < (ring E).length) : enE E i + up8N (rg E i).l ≤ enE E (ring E).length := enE_mono (E := E) (i := i + 1) h
theorem packed_lies {r : Nat} (k : Lies E r) : Lies (packE E) (enE E (ring E).length) := by
  have hl : (ring (packE E)).length = (ring E).length := by rw [ring_len, ring_len, packE_len]
  have key : ∀ e ∈ ring (packE E), ∃ i, i < (ring E).length ∧ e = ⟨(rg E i).n, enE E i, (rg E i).l⟩ := by
    intro e he
    obtain ⟨i, hi, rfl⟩ := List.mem_iff_getElem.1 he
    have h1 := packE_get (E := E) (i := i) (by omega)
    rw [List.getElem?_eq_getElem hi] at h1
    exact ⟨i, by omega, Option.some.inj h1⟩
  refine ⟨?_, ?_, ?_⟩
  · intro i e f he hf
    have h2 := (List.getElem?_eq_some_iff.1 hf).1
    rw [packE_get (by omega)] at he
    rw [packE_get (by omega)] at hf
    cases he; cases hf
    exact Nat.le_refl _
  · intro e he
    obtain ⟨i, hi, rfl⟩ := List.mem_iff_getElem.1 he
    have h1 := packE_get (E := E) (i := i + 1) (by rw [packE_len] at hi; rw [ring_len]; omega)
    unfold ring at h1
    rw [List.getElem?_cons_succ, List.getElem?_eq_getElem hi] at h1
    rw [Option.some.inj h1]
    have h2 := k.2.1 _ (rg_memE (E := E) (i := i) (by rw [packE_len] at hi; rw [ring_len]; omega))
    exact ⟨enE_mod _, h2.2⟩
  · intro e he
    obtain ⟨i, hi, rfl⟩ := key e he
    exact enE_le_all hi
theorem ring_packed (g : Ring s E) : Ring (pkd s E) (packE E) := by
  have k := ring_pk g
  have hn := numlen (E := E)
  refine ⟨?_, ?_, ?_, ?_, ?_, ?_⟩
  · show (numE (packE E)).Nodup
    rw [packE_num]; exact g.nodup
  · rw [pkd_row g]; exact packed_lies g.lies
  · intro i e he
    have hi := (List.getElem?_eq_some_iff.1 he).1
    rw [ring_len, packE_len] at hi
    have hi' : i < (ring E).length := by rw [ring_len]; omega
    rw [packE_get hi'] at he
    cases he
    rw [blkOf_pack]
    exact packN_earlier k (numE E).length i _ (by omega) (Nat.le_refl _) (by unfold numE; rw [List.getElem?_map, rg_get hi']; rfl)
  · intro x hx
    exact packN_byte _ g.byte x (List.mem_of_mem_take hx)
  · have hlast : (numE E)[(numE E).length - 1]? = some (rg E ((ring E).length - 1)).n := by
      unfold numE; rw [List.getElem?_map, List.length_map, rg_get (by rw [ring_len]; omega)]; rfl
    refine ⟨⟨(rg E ((ring E).length - 1)).n, enE E ((ring E).length - 1), (rg E ((ring E).length - 1)).l⟩, List.mem_of_getElem? (packE_get (by rw [ring_len]; omega)), ?_⟩
    exact packN_hand hlast
  · rw [pkd_row g]; exact enE_mod _
theorem packed_used : ((packE E).map (fun e => up8N e.l)).foldr (· + ·) 0 = (E.map (fun e => up8N e.l)).foldr (· + ·) 0 := by
  congr 1
  apply List.ext_getElem?
  intro i
  rw [List.getElem?_map, List.getElem?_map]
  by_cases h : i < E.length
  · have h1 := packE_get (E := E) (i := i + 1) (by rw [ring_len]; omega)
    have h2 := rg_get (E := E) (i := i + 1) (by rw [ring_len]; omega)
    unfold ring at h1 h2
    rw [List.getElem?_cons_succ] at h1 h2
    rw [h1, h2]; rfl
  · rw [List.getElem?_eq_none (by rw [packE_len]; omega), List.getElem?_eq_none (by omega)]
theorem get_blks (s : Sto) (id : Nat) : s.get (id + 1) = s.blks[id]? := by unfold Sto.get; rw [if_neg (by omega)]; rfl
theorem ring_live (g : Ring s E) (id : Nat) (h : id + 1 ∈ numE E) : ∃ b, s.blks[id]? = some b ∧ b.live = true := by
  obtain ⟨j, hj, e⟩ := List.mem_iff_getElem.1 h
  have h1 : (numE E)[j]? = some (id + 1) := by rw [List.getElem?_eq_getElem hj, e]
  obtain ⟨h2, h3⟩ := numE_get h1
  have h4 := g.get j _ (rg_get h2)
  rw [← h3, get_blks] at h4
  refine ⟨_, h4, ?_⟩
  show decide (0 < j) = true
  have : j ≠ 0 := by rintro rfl; exact absurd h3 (by show ¬ id + 1 = 0; omega)
  simp; omega
end
end Go.Proofs.YtgmimmdojkoppaaGreatDoor.W
/- Package store: an extent put into the ring. -/
namespace Go.Proofs.YtgmimmdojkoppaaGreatDoor.W
set_option linter.unusedVariables false
/-- an extent put in behind the j-th of the ring -/
def insE (E : List Ex) (j : Nat) (e : Ex) : List Ex := E.take j ++ e :: E.drop j
section
variable {s : Sto} {E : List Ex}
theorem insE_len {j : Nat} (e : Ex) (h : j ≤ E.length) : (insE E j e).length = E.length + 1 := by simp [insE]; omega
theorem insE_get {j : Nat} (e : Ex) (h : j ≤ E.length) (i : Nat) : (ring (insE E j e))[i]? = if i ≤ j then (ring E)[i]? else if i = j + 1 then some e else (ring E)[i - 1]? := by
  cases i with
  | zero => simp [ring]
  | succ i =>
    unfold ring insE
    rw [List.getElem?_cons_succ, List.getElem?_append]
    have hl : (E.take j).length = j := by simp; omega
    rw [hl]
    by_cases h1 : i < j
    · rw [if_pos h1, if_pos (by omega), List.getElem?_cons_succ, List.getElem?_take, if_pos h1]
    · rw [if_neg h1]
      by_cases h2 : i = j
      · subst h2; rw [if_neg (by omega), if_pos rfl]; simp
      · rw [if_neg (by omega), if_neg (by omega), Nat.add_sub_cancel]
        obtain ⟨m, rfl⟩ : ∃ m, i = j + 1 + m := ⟨i - j - 1, by omega⟩
        rw [show j + 1 + m - j = m + 1 by omega, List.getElem?_cons_succ, List.getElem?_drop, show j + 1 + m = (j + m) + 1 by omega, List.getElem?_cons_succ]
theorem linked_get {n bk nx : Nat} {bn bb bx : Blk} (hn : s.get n = some bn) (hb : s.get bk = some bb) (hx : s.get nx = some bx) (h1 : bk ≠ n) (h2 : nx ≠ n) (m : Nat) :
    (s.linked n bk nx).get m = if m = n then some { bn with back := bk, next := nx } else if m = nx then some { (if m = bk then { bb with next := (n : Int) } else bx) with back := n } else if m = bk then some { bb with next := n } else s.get m := by
  have g1 : ∀ m, m ≠ n → (s.linked1 n bk nx).get m = s.get m := fun m hm => get_set_ne _ hm
  have g1n : (s.linked1 n bk nx).get n = some { bn with back := bk, next := nx } := by
    unfold Sto.linked1; rw [getD_of hn]; exact get_set_same hn _
  have e1 : (s.linked1 n bk nx).getD bk = bb := getD_of (by rw [g1 _ h1]; exact hb)
  have g2 : (s.linked2 n bk nx).get bk = some { bb with next := (n : Int) } := by
    unfold Sto.linked2; rw [e1]; exact get_set_same (b := bb) (by rw [g1 _ h1]; exact hb) _
  have g2o : ∀ m, m ≠ bk → (s.linked2 n bk nx).get m = (s.linked1 n bk nx).get m := fun m hm => get_set_ne _ hm
  have g2x : (s.linked2 n bk nx).get nx = some (if nx = bk then { bb with next := (n : Int) } else bx) := by
    by_cases e : nx = bk
    · rw [if_pos e]; subst e; exact g2
    · rw [if_neg e, g2o _ e, g1 _ h2]; exact hx
  have e2 : (s.linked2 n bk nx).getD nx = (if nx = bk then { bb with next := (n : Int) } else bx) := getD_of g2x
  by_cases c1 : m = n
  · rw [if_pos c1]; subst c1
    show ((s.linked2 m bk nx).set nx _).get m = _
    rw [get_set_ne _ h2.symm, g2o _ h1.symm]; exact g1n
  · rw [if_neg c1]
    by_cases c2 : m = nx
    · rw [if_pos c2]; subst c2
      show ((s.linked2 n bk m).set m _).get m = _
      rw [e2]; exact get_set_same g2x _
    · rw [if_neg c2]
      show ((s.linked2 n bk nx).set nx _).get m = _
      rw [get_set_ne _ c2]
      by_cases c3 : m = bk
      · rw [if_pos c3]; subst c3; exact g2
      · rw [if_neg c3, g2o _ c3]; exact g1 _ c1
theorem linked_row (n bk nx : Nat) : (s.linked n bk nx).row = s.row := by unfold Sto.linked Sto.linked2 Sto.linked1; rw [set_row, set_row, set_row]
theorem linked_free (n bk nx : Nat) : (s.linked n bk nx).free = s.free := by unfold Sto.linked Sto.linked2 Sto.linked1; rw [set_free, set_free, set_free]
theorem linked_used (n bk nx : Nat) : (s.linked n bk nx).used = s.used := by unfold Sto.linked Sto.linked2 Sto.linked1; rw [set_used, set_used, set_used]
theorem linked_len (n bk nx : Nat) : (s.linked n bk nx).blks.length = s.blks.length := by unfold Sto.linked Sto.linked2 Sto.linked1; rw [set_len, set_len, set_len]
theorem laid_row (n bk nx p u : Nat) : (s.laid n bk nx p u).row = layRow s.row p u := linked_row _ _ _
theorem laid_free (n bk nx p u : Nat) : (s.laid n bk nx p u).free = s.free := by
  show (Sto.linked _ n bk nx).free = _
  rw [linked_free]; exact set_free _ _ _
theorem laid_used (n bk nx p u : Nat) : (s.laid n bk nx p u).used = s.used := by
  show (Sto.linked _ n bk nx).used = _
  rw [linked_used]; exact set_used _ _ _
theorem laid_len (n bk nx p u : Nat) : (s.laid n bk nx p u).blks.length = s.blks.length := by
  show (Sto.linked _ n bk nx).blks.length = _
  rw [linked_len]; exact set_len _ _ _
theorem laid_get {n bk nx : Nat} {bn bb bx : Blk} (p u : Nat) (hn : s.get n = some bn) (hb : s.get bk = some bb) (hx : s.get nx = some bx) (h1 : bk ≠ n) (h2 : nx ≠ n) (m : Nat) :
    (s.laid n bk nx p u).get m = if m = n then some { bn with pos := p, back := bk, next := nx } else if m = nx then some { (if m = bk then { bb with next := (n : Int) } else bx) with back := n } else if m = bk then some { bb with next := n } else s.get m := by
  have k1 : ({ s.set n { s.getD n with pos := (p : Int) } with row := layRow s.row p u } : Sto).get n = some { bn with pos := (p : Int) } := by
    rw [getD_of hn]; exact get_set_same hn _
  have k2 : ∀ m, m ≠ n → ({ s.set n { s.getD n with pos := (p : Int) } with row := layRow s.row p u } : Sto).get m = s.get m := fun m hm => get_set_ne _ hm
  have := linked_get k1 (by rw [k2 _ h1]; exact hb) (by rw [k2 _ h2]; exact hx) h1 h2 m
  show (Sto.linked _ n bk nx).get m = _
  rw [this]
  by_cases c1 : m = n
  · rw [if_pos c1, if_pos c1]
  · rw [if_neg c1, if_neg c1, k2 _ c1]
theorem layRow_len (row : List Nat) (p u : Nat) : (layRow row p u).length = max row.length (p + u) := by
  unfold layRow longer; rw [setL_len, List.length_append, List.length_replicate]; omega
theorem longer_get (row : List Nat) (e i : Nat) (h : i < row.length) : (longer row e)[i]? = row[i]? := by
  unfold longer; rw [List.getElem?_append_left h]
theorem layRow_out (row : List Nat) (p u a n : Nat) (ha : a + n ≤ row.length) (ho : a + n ≤ p ∨ p + u ≤ a) : seg (layRow row p u) a n = seg row a n := by
  unfold layRow
  rw [seg_setL_out _ _ _ _ _ (by unfold longer; simp; omega) (by simpa using ho)]
  exact seg_ext (fun i hi => longer_get _ _ _ (by omega))
theorem layRow_in (row : List Nat) (p u n : Nat) (hn : n ≤ u) : seg (layRow row p u) p n = List.replicate n 0 := by
  apply List.ext_getElem?
  intro i
  by_cases hi : i < n
  · rw [seg_get _ _ _ _ hi]
    unfold layRow
    rw [setL_get _ _ _ _ (by unfold longer; simp; omega), if_pos (by simp; omega), List.getElem?_replicate, if_pos (by omega), List.getElem?_replicate, if_pos hi]
  · rw [List.getElem?_eq_none (by simp [seg]; omega), List.getElem?_eq_none (by simp; omega)]
theorem layRow_byte (row : List Nat) (p u : Nat) (h : ∀ x ∈ row, x < 256) : ∀ x ∈ layRow row p u, x < 256 := by
  intro x hx
  rcases mem_setL _ _ _ _ hx with g | g
  · unfold longer at g
    rcases List.mem_append.1 g with g | g
    · exact h x g
    · have := (List.mem_replicate.1 g).2; omega
  · have := (List.mem_replicate.1 g).2; omega
theorem rg_inj (hd : ((ring E).map Ex.n).Nodup) {i k : Nat} (hi : i < (ring E).length) (hk : k < (ring E).length) (h : (rg E i).n = (rg E k).n) : i = k := by
  have h1 : ((ring E).map Ex.n)[i]'(by simpa using hi) = (rg E i).n := by
    rw [List.getElem_map]
    have := rg_get hi
    rw [List.getElem?_eq_getElem hi] at this
    rw [Option.some.inj this]
  have h2 : ((ring E).map Ex.n)[k]'(by simpa using hk) = (rg E k).n := by
    rw [List.getElem_map]
    have := rg_get hk
    rw [List.getElem?_eq_getElem hk] at this
    rw [Option.some.inj this]
  have hl : ((ring E).map Ex.n).length = (ring E).length := List.length_map ..
  rcases Nat.lt_trichotomy i k with c | c | c
  · exact absurd (by rw [h1, h2, h]) (List.pairwise_iff_getElem.1 hd i k (by omega) (by omega) c)
  · exact c
  · exact absurd (by rw [h1, h2, h]) (List.pairwise_iff_getElem.1 hd k i (by omega) (by omega) c)
/-- the number at a place of the ring -/
def nm (E : List Ex) (i : Nat) : Nat := ((ring E)[i]?.map Ex.n).getD 0
theorem nm_rg {i : Nat} (h : i < (ring E).length) : nm E i = (rg E i).n := by unfold nm; rw [rg_get h]; rfl
theorem nm_out {i : Nat} (h : (ring E).length ≤ i) : nm E i = 0 := by unfold nm; rw [List.getElem?_eq_none h]; rfl
theorem nm_ins {j : Nat} (e : Ex) (h : j ≤ E.length) (i : Nat) : nm (insE E j e) i = if i ≤ j then nm E i else if i = j + 1 then e.n else nm E (i - 1) := by
  unfold nm
  rw [insE_get e h]
  split
  · rfl
  · split <;> rfl
theorem blkOf_nm (i : Nat) (e : Ex) : blkOf E i e = ⟨decide (0 < i), e.p, e.l, (nm E (if i = 0 then E.length else i - 1) : Nat), (nm E (i + 1) : Nat)⟩ := rfl
theorem insE_num {j : Nat} (e : Ex) : ((ring (insE E j e)).map Ex.n).Perm (e.n :: (ring E).map Ex.n) := by
  unfold ring insE
  simp only [List.map_cons, List.map_append]
  refine List.Perm.trans (List.Perm.cons _ List.perm_middle) ?_
  refine List.Perm.trans (List.Perm.swap _ _ _) ?_
  rw [← List.map_append, List.take_append_drop]
theorem lies_ins {r r' : Nat} (k : Lies E r) {j : Nat} (hj : j ≤ E.length) (e : Ex) (hr : r ≤ r') (he8 : e.p % 8 = 0) (hel : 0 < e.l) (hen : e.n ≠ 0) (hes : e.stop ≤ r') (h1 : (rg E j).stop ≤ e.p) (h2 : j < E.length → e.stop ≤ (rg E (j + 1)).p) : Lies (insE E j e) r' := by
  refine ⟨?_, ?_, ?_⟩
  · intro i a b ha hb
    rw [insE_get e hj] at ha hb
    by_cases c1 : i + 1 ≤ j
    · rw [if_pos (by omega)] at ha
      rw [if_pos c1] at hb
      exact k.1 i a b ha hb
    · rw [if_neg c1] at hb
      by_cases c2 : i = j
      · subst c2
        rw [if_pos (by omega)] at ha
        rw [if_pos rfl] at hb
        cases hb
        rw [← rg_of ha]; exact h1
      · rw [if_neg (by omega)] at hb
        rw [if_neg (by omega)] at ha
        rw [Nat.add_sub_cancel] at hb
        by_cases c3 : i = j + 1
        · subst c3
          rw [if_pos rfl] at ha
          cases ha
          have hlt := (List.getElem?_eq_some_iff.1 hb).1
          rw [← rg_of hb]; exact h2 (by rw [ring_len] at hlt; omega)
        · rw [if_neg c3] at ha
          obtain ⟨m, rfl⟩ : ∃ m, i = m + 1 := ⟨i - 1, by omega⟩
          exact k.1 m a b ha hb
  · intro a ha
    unfold insE at ha
    rcases List.mem_append.1 ha with ha | ha
    · exact k.2.1 a (List.mem_of_mem_take ha)
    · rcases List.mem_cons.1 ha with rfl | ha
      · exact ⟨he8, hel, hen⟩
      · exact k.2.1 a (List.mem_of_mem_drop ha)
  · intro a ha
    rcases List.mem_cons.1 ha with rfl | ha
    · exact Nat.le_trans (k.2.2 _ (List.mem_cons_self ..)) hr
    · unfold insE at ha
      rcases List.mem_append.1 ha with ha | ha
      · exact Nat.le_trans (k.2.2 a (List.mem_cons_of_mem _ (List.mem_of_mem_take ha))) hr
      · rcases List.mem_cons.1 ha with rfl | ha
        · exact hes
        · exact Nat.le_trans (k.2.2 a (List.mem_cons_of_mem _ (List.mem_of_mem_drop ha))) hr
end
end Go.Proofs.YtgmimmdojkoppaaGreatDoor.W
/- Package store: the ring behind lay; what an extent holds. -/
namespace Go.Proofs.YtgmimmdojkoppaaGreatDoor.W
set_option linter.unusedVariables false
section
variable {s : Sto} {E : List Ex}
theorem stop_mod {r : Nat} (k : Lies E r) {j : Nat} (hj : j < (ring E).length) : (rg E j).stop % 8 = 0 := by
  cases j with
  | zero => show (0 + up8N 0) % 8 = 0; rw [Nat.zero_add]; exact up8N_mod 0
  | succ j =>
    have h1 := (k.2.1 _ (rg_memE hj)).1
    have h2 := up8N_mod (rg E (j + 1)).l
    unfold Ex.stop
    omega
theorem numE_mem {i : Nat} (hi : i < (ring E).length) : (rg E i).n ∈ numE E := List.mem_map_of_mem (rg_mem hi)
theorem ring_laid (g : Ring s E) {j : Nat} (hj : j ≤ E.length) {n l : Nat} (hn : n ∉ numE E) (hl : 0 < l) (hg : s.get n = some ⟨true, 0, l, 0, 0⟩) (hroom : j < E.length → (rg E j).stop + up8N l ≤ (rg E (j + 1)).p) :
    Ring (s.laid n (nm E j) (nm E (j + 1)) (rg E j).stop (up8N l)) (insE E j ⟨n, (rg E j).stop, l⟩) := by
  have hjl : j < (ring E).length := by rw [ring_len]; omega
  have hn0 : n ≠ 0 := by rintro rfl; exact hn (by show 0 ∈ (ring E).map Ex.n; exact List.mem_cons_self ..)
  have bkj : nm E j = (rg E j).n := nm_rg hjl
  have hbk : nm E j ≠ n := by rw [bkj]; rintro e; exact hn (e ▸ numE_mem hjl)
  obtain ⟨jn, hjn⟩ : ∃ jn, jn = if j = E.length then 0 else j + 1 := ⟨_, rfl⟩
  have hjnl : jn < (ring E).length := by rw [hjn, ring_len]; split <;> omega
  have nxj : nm E (j + 1) = (rg E jn).n := by
    by_cases c : j = E.length
    · rw [nm_out (by rw [ring_len]; omega), hjn, if_pos c]; rfl
    · rw [hjn, if_neg c]; exact nm_rg (by rw [ring_len]; omega)
  have hnx : nm E (j + 1) ≠ n := by rw [nxj]; rintro e; exact hn (e ▸ numE_mem hjnl)
  have gb : s.get (nm E j) = some (blkOf E j (rg E j)) := by rw [bkj]; exact g.get j _ (rg_get hjl)
  have gx : s.get (nm E (j + 1)) = some (blkOf E jn (rg E jn)) := by rw [nxj]; exact g.get jn _ (rg_get hjnl)
  have key := laid_get (rg E j).stop (up8N l) hg gb gx hbk hnx
  have rl := layRow_len s.row (rg E j).stop (up8N l)
  have inj : ∀ {a b : Nat}, a < (ring E).length → b < (ring E).length → (rg E a).n = (rg E b).n → a = b := fun ha hb h => rg_inj g.nodup ha hb h
  have old : ∀ k, k < (ring E).length → (s.laid n (nm E j) (nm E (j + 1)) (rg E j).stop (up8N l)).get (rg E k).n = some ⟨decide (0 < k), (rg E k).p, (rg E k).l, if k = jn then (n : Int) else (nm E (if k = 0 then E.length else k - 1) : Nat), if k = j then (n : Int) else (nm E (k + 1) : Nat)⟩ := by
    intro k hk
    have ne : (rg E k).n ≠ n := fun e => hn (e ▸ numE_mem hk)
    rw [key, if_neg ne, nxj, bkj]
    have e1 : ((rg E k).n = (rg E jn).n) ↔ k = jn := ⟨inj hk hjnl, fun e => by rw [e]⟩
    have e2 : ((rg E k).n = (rg E j).n) ↔ k = j := ⟨inj hk hjl, fun e => by rw [e]⟩
    have e3 : s.get (rg E k).n = some (blkOf E k (rg E k)) := g.get k _ (rg_get hk)
    simp only [e1, e2, e3, blkOf_nm]
    by_cases c1 : k = jn
    · simp only [if_pos c1]
      by_cases c2 : k = j
      · simp only [if_pos c2]; rw [← c2]
      · simp only [if_neg c2]; rw [← c1]
    · simp only [if_neg c1]
      by_cases c2 : k = j
      · simp only [if_pos c2]; rw [← c2]
      · simp only [if_neg c2]
  have hnE : ∀ i, nm (insE E j ⟨n, (rg E j).stop, l⟩) i = if i ≤ j then nm E i else if i = j + 1 then n else nm E (i - 1) := nm_ins _ hj
  refine ⟨?_, ?_, ?_, ?_, ?_, ?_⟩
  · exact (insE_num _).nodup_iff.2 (List.nodup_cons.2 ⟨hn, g.nodup⟩)
  · rw [laid_row, rl]
    refine lies_ins g.lies hj _ (by omega) (stop_mod g.lies hjl) hl hn0 ?_ (Nat.le_refl _) hroom
    show (rg E j).stop + up8N l ≤ _
    omega
  · intro i e he
    rw [insE_get _ hj] at he
    rw [blkOf_nm, hnE, hnE, insE_len _ hj]
    by_cases c1 : i ≤ j
    · rw [if_pos c1] at he
      have hil := (List.getElem?_eq_some_iff.1 he).1
      rw [← rg_of he, old i hil]
      congr 2
      · by_cases c2 : i = jn
        · have : i = 0 ∧ j = E.length := by
            rw [hjn] at c2; split at c2
            · exact ⟨c2, by assumption⟩
            · omega
          rw [if_pos c2, this.1, if_pos rfl, if_neg (by omega), if_pos (by omega)]
        · rw [if_neg c2]
          by_cases c3 : i = 0
          · have : j ≠ E.length := by rintro rfl; exact c2 (by rw [c3, hjn, if_pos rfl])
            rw [c3, if_pos rfl, if_pos rfl, if_neg (by omega), if_neg (by omega)]; rfl
          · rw [if_neg c3, if_neg c3, if_pos (by omega)]
      · by_cases c2 : i = j
        · rw [if_pos c2, if_neg (by omega), if_pos (by omega)]
        · rw [if_neg c2, if_pos (by omega)]
    · rw [if_neg c1] at he
      by_cases c2 : i = j + 1
      · rw [if_pos c2] at he
        cases he
        show (s.laid n _ _ _ _).get n = _
        rw [key, if_pos rfl, c2, if_neg (show ¬ j + 1 = 0 by omega), Nat.add_sub_cancel, if_pos (Nat.le_refl j), if_neg (show ¬ j + 1 + 1 ≤ j by omega), if_neg (show ¬ j + 1 + 1 = j + 1 by omega), Nat.add_sub_cancel]
        simp
      · rw [if_neg c2] at he
        have hil := (List.getElem?_eq_some_iff.1 he).1
        have hil' := hil
        rw [ring_len] at hil'
        rw [← rg_of he, old (i - 1) hil]
        have d : decide (0 < i - 1) = decide (0 < i) := by
          have h1 : 0 < i - 1 := by omega
          have h2 : 0 < i := by omega
          rw [decide_eq_true h1, decide_eq_true h2]
        rw [d]
        congr 2
        · rw [if_neg (show ¬ i = 0 by omega), if_neg (show ¬ i - 1 ≤ j by omega)]
          by_cases c3 : i - 1 = jn
          · have : i - 1 = j + 1 := by
              rw [hjn] at c3; split at c3 <;> omega
            rw [if_pos c3, if_pos this]
          · have : i - 1 ≠ j + 1 := by
              intro e; apply c3; rw [hjn, if_neg (by omega)]; exact e
            rw [if_neg c3, if_neg this, if_neg (by omega)]
        · rw [if_neg (show ¬ i - 1 = j by omega), if_neg (by omega), if_neg (by omega), Nat.add_sub_cancel, show i - 1 + 1 = i by omega]
  · intro x hx
    rw [laid_row] at hx
    exact layRow_byte _ _ _ g.byte x hx
  · refine ⟨⟨n, (rg E j).stop, l⟩, ?_, rfl⟩
    exact List.mem_of_getElem? (i := j + 1) (by rw [insE_get _ hj, if_neg (by omega), if_pos rfl])
  · rw [laid_row, rl]
    have h1 := g.row8
    have h2 := stop_mod g.lies hjl
    have h3 := up8N_mod l
    rcases Nat.le_total s.row.length ((rg E j).stop + up8N l) with c | c
    · rw [Nat.max_eq_right c]; omega
    · rw [Nat.max_eq_left c]; omega
/-- what the extents of the ring hold is left -/
theorem laid_bytes (g : Ring s E) {j : Nat} (hj : j ≤ E.length) {n l : Nat} (hroom : j < E.length → (rg E j).stop + up8N l ≤ (rg E (j + 1)).p) (k : Nat) (hk : k < (ring E).length) (m o : Nat) : seg (s.laid n m o (rg E j).stop (up8N l)).row (rg E k).p (rg E k).l = seg s.row (rg E k).p (rg E k).l := by
  rw [laid_row]
  have hs := g.lies.2.2 _ (rg_mem hk)
  have hu := up8N_ge (rg E k).l
  unfold Ex.stop at hs
  have hjl : j < (ring E).length := by rw [ring_len]; omega
  refine layRow_out _ _ _ _ _ (by omega) ?_
  by_cases c : k ≤ j
  · left
    by_cases e : k = j
    · subst e; unfold Ex.stop; omega
    · have := rg_lt g.lies (i := k) (j := j) (by omega) hjl
      unfold Ex.stop at *; omega
  · right
    rw [ring_len] at hk
    have h1 := hroom (by omega)
    by_cases e : k = j + 1
    · subst e; exact h1
    · have := rg_lt g.lies (i := j + 1) (j := k) (by omega) (by rw [ring_len]; omega)
      unfold Ex.stop at *; omega
end
end Go.Proofs.YtgmimmdojkoppaaGreatDoor.W
/- Package store: an extent taken out of the ring; Good behind Give. -/
namespace Go.Proofs.YtgmimmdojkoppaaGreatDoor.W
set_option linter.unusedVariables false
section
variable {s : Sto} {E : List Ex}
theorem del_get {j : Nat} (h : j < E.length) (i : Nat) : (ring (E.eraseIdx j))[i]? = if i ≤ j then (ring E)[i]? else (ring E)[i + 1]? := by
  cases i with
  | zero => simp [ring]
  | succ i =>
    unfold ring
    rw [List.getElem?_cons_succ, List.getElem?_eraseIdx, List.getElem?_cons_succ, List.getElem?_cons_succ]
    by_cases c : i < j
    · rw [if_pos c, if_pos (by omega)]
    · rw [if_neg c, if_neg (by omega)]
theorem del_len {j : Nat} (h : j < E.length) : (E.eraseIdx j).length = E.length - 1 := List.length_eraseIdx_of_lt h
theorem nm_del {j : Nat} (h : j < E.length) (i : Nat) : nm (E.eraseIdx j) i = if i ≤ j then nm E i else nm E (i + 1) := by
  unfold nm; rw [del_get h]; split <;> rfl
theorem lies_del {r : Nat} (k : Lies E r) {j : Nat} (hj : j < E.length) : Lies (E.eraseIdx j) r := by
  refine ⟨?_, fun e he => k.2.1 e (List.mem_of_mem_eraseIdx he), ?_⟩
  · intro i a b ha hb
    rw [del_get hj] at ha hb
    by_cases c1 : i + 1 ≤ j
    · rw [if_pos (by omega)] at ha
      rw [if_pos c1] at hb
      exact k.1 i a b ha hb
    · rw [if_neg c1] at hb
      by_cases c2 : i = j
      · subst c2
        rw [if_pos (by omega)] at ha
        have h2 := (List.getElem?_eq_some_iff.1 hb).1
        have := rg_lt k (i := i) (j := i + 1 + 1) (by omega) h2
        rw [rg_of ha, rg_of hb] at this
        exact this
      · rw [if_neg (by omega)] at ha
        exact k.1 (i + 1) a b ha hb
  · intro e he
    rcases List.mem_cons.1 he with rfl | he
    · exact k.2.2 _ (List.mem_cons_self ..)
    · exact k.2.2 _ (List.mem_cons_of_mem _ (List.mem_of_mem_eraseIdx he))
theorem unlinked_get {n bk nx : Nat} {bb bx : Blk} (hb : s.get bk = some bb) (hx : s.get nx = some bx) (m : Nat) :
    (s.unlinked n bk nx).get m = if m = nx then some { (if m = bk then { bb with next := (nx : Int) } else bx) with back := bk } else if m = bk then some { bb with next := nx } else s.get m := by
  have e1 : s.getD bk = bb := getD_of hb
  have g2 : (s.un1 bk nx).get bk = some { bb with next := (nx : Int) } := by
    unfold Sto.un1; rw [e1]; exact get_set_same hb _
  have g2o : ∀ m, m ≠ bk → (s.un1 bk nx).get m = s.get m := fun m hm => get_set_ne _ hm
  have g2x : (s.un1 bk nx).get nx = some (if nx = bk then { bb with next := (nx : Int) } else bx) := by
    by_cases e : nx = bk
    · rw [if_pos e]; subst e; exact g2
    · rw [if_neg e, g2o _ e]; exact hx
  have e2 : (s.un1 bk nx).getD nx = (if nx = bk then { bb with next := (nx : Int) } else bx) := getD_of g2x
  show ((s.un1 bk nx).set nx _).get m = _
  by_cases c2 : m = nx
  · rw [if_pos c2]; subst c2
    rw [e2]; exact get_set_same g2x _
  · rw [if_neg c2, get_set_ne _ c2]
    by_cases c3 : m = bk
    · rw [if_pos c3]; subst c3; exact g2
    · rw [if_neg c3]; exact g2o _ c3
theorem unlinked_row (n bk nx : Nat) : (s.unlinked n bk nx).row = s.row := by
  show (s.un2 bk nx).row = _
  unfold Sto.un2 Sto.un1; rw [set_row, set_row]
theorem unlinked_free (n bk nx : Nat) : (s.unlinked n bk nx).free = s.free := by
  show (s.un2 bk nx).free = _
  unfold Sto.un2 Sto.un1; rw [set_free, set_free]
theorem unlinked_used (n bk nx : Nat) : (s.unlinked n bk nx).used = s.used := by
  show (s.un2 bk nx).used = _
  unfold Sto.un2 Sto.un1; rw [set_used, set_used]
theorem unlinked_len (n bk nx : Nat) : (s.unlinked n bk nx).blks.length = s.blks.length := by
  show (s.un2 bk nx).blks.length = _
  unfold Sto.un2 Sto.un1; rw [set_len, set_len]
theorem ring_unlinked (g : Ring s E) {j : Nat} (hj : j < E.length) : Ring (s.unlinked (nm E (j + 1)) (nm E j) (nm E (j + 2))) (E.eraseIdx j) := by
  have hjl : j < (ring E).length := by rw [ring_len]; omega
  have hjl1 : j + 1 < (ring E).length := by rw [ring_len]; omega
  have bkj : nm E j = (rg E j).n := nm_rg hjl
  obtain ⟨jn, hjn⟩ : ∃ jn, jn = if j + 1 = E.length then 0 else j + 2 := ⟨_, rfl⟩
  have hjnl : jn < (ring E).length := by rw [hjn, ring_len]; split <;> omega
  have nxj : nm E (j + 2) = (rg E jn).n := by
    by_cases c : j + 1 = E.length
    · rw [nm_out (by rw [ring_len]; omega), hjn, if_pos c]; rfl
    · rw [hjn, if_neg c]; exact nm_rg (by rw [ring_len]; omega)
  have gb : s.get (nm E j) = some (blkOf E j (rg E j)) := by rw [bkj]; exact g.get j _ (rg_get hjl)
  have gx : s.get (nm E (j + 2)) = some (blkOf E jn (rg E jn)) := by rw [nxj]; exact g.get jn _ (rg_get hjnl)
  have key := unlinked_get (n := nm E (j + 1)) gb gx
  have inj : ∀ {a b : Nat}, a < (ring E).length → b < (ring E).length → (rg E a).n = (rg E b).n → a = b := fun ha hb h => rg_inj g.nodup ha hb h
  have old : ∀ k, k < (ring E).length → (s.unlinked (nm E (j + 1)) (nm E j) (nm E (j + 2))).get (rg E k).n = some ⟨decide (0 < k), (rg E k).p, (rg E k).l, if k = jn then (nm E j : Nat) else (nm E (if k = 0 then E.length else k - 1) : Nat), if k = j then (nm E (j + 2) : Nat) else (nm E (k + 1) : Nat)⟩ := by
    intro k hk
    have e1 : ((rg E k).n = nm E (j + 2)) ↔ k = jn := by rw [nxj]; exact ⟨inj hk hjnl, fun e => by rw [e]⟩
    have e2 : ((rg E k).n = nm E j) ↔ k = j := by rw [bkj]; exact ⟨inj hk hjl, fun e => by rw [e]⟩
    have e3 : s.get (rg E k).n = some (blkOf E k (rg E k)) := g.get k _ (rg_get hk)
    rw [key]
    simp only [e1, e2, e3, blkOf_nm]
    by_cases c1 : k = jn
    · simp only [if_pos c1]
      by_cases c2 : k = j
      · simp only [if_pos c2]; rw [← c2]
      · simp only [if_neg c2]; rw [← c1]
    · simp only [if_neg c1]
      by_cases c2 : k = j
      · simp only [if_pos c2]; rw [← c2]
      · simp only [if_neg c2]
  refine ⟨?_, ?_, ?_, ?_, ?_, ?_⟩
  · have : ((ring (E.eraseIdx j)).map Ex.n).Sublist ((ring E).map Ex.n) := ((List.eraseIdx_sublist E j).cons_cons front).map Ex.n
    exact g.nodup.sublist this
  · rw [unlinked_row]; exact lies_del g.lies hj
  · intro i e he
    rw [del_get hj] at he
    rw [blkOf_nm, nm_del hj, nm_del hj, del_len hj]
    by_cases c1 : i ≤ j
    · rw [if_pos c1] at he
      have hil := (List.getElem?_eq_some_iff.1 he).1
      rw [← rg_of he, old i hil]
      congr 2
      · by_cases c2 : i = jn
        · have : i = 0 ∧ j + 1 = E.length := by
            rw [hjn] at c2; split at c2
            · exact ⟨c2, by assumption⟩
            · omega
          rw [if_pos c2, this.1, if_pos rfl, if_pos (by omega), show E.length - 1 = j by omega]
        · rw [if_neg c2]
          by_cases c3 : i = 0
          · have : j + 1 ≠ E.length := by intro h; exact c2 (by rw [c3, hjn, if_pos h])
            rw [c3, if_pos rfl, if_pos rfl, if_neg (by omega), show E.length - 1 + 1 = E.length by omega]
          · rw [if_neg c3, if_neg c3, if_pos (by omega)]
      · by_cases c2 : i = j
        · rw [if_pos c2, if_neg (by omega), c2]
        · rw [if_neg c2, if_pos (by omega)]
    · rw [if_neg c1] at he
      have hil := (List.getElem?_eq_some_iff.1 he).1
      have hil' := hil
      rw [ring_len] at hil'
      rw [← rg_of he, old (i + 1) hil]
      have d : decide (0 < i + 1) = decide (0 < i) := by
        have h1 : 0 < i + 1 := by omega
        have h2 : 0 < i := by omega
        rw [decide_eq_true h1, decide_eq_true h2]
      rw [d]
      congr 2
      · rw [if_neg (show ¬ i = 0 by omega)]
        by_cases c3 : i + 1 = jn
        · have : i = j + 1 := by
            rw [hjn] at c3; split at c3 <;> omega
          rw [if_pos c3, if_pos (show i - 1 ≤ j by omega), show i - 1 = j by omega]
        · have : i ≠ j + 1 := by
            intro e; apply c3; rw [hjn, if_neg (by omega)]; omega
          rw [if_neg c3, if_neg (show ¬ i + 1 = 0 by omega), if_neg (show ¬ i - 1 ≤ j by omega), show i - 1 + 1 = i + 1 - 1 by omega]
      · rw [if_neg (show ¬ i + 1 = j by omega), if_neg (by omega)]
  · intro x hx
    rw [unlinked_row] at hx
    exact g.byte x hx
  · obtain ⟨e, he, hh⟩ := g.hand
    show ∃ e ∈ ring (E.eraseIdx j), (if s.hand = (nm E (j + 1) : Nat) then ((nm E j : Nat) : Int) else s.hand) = (e.n : Nat)
    by_cases c : s.hand = (nm E (j + 1) : Nat)
    · rw [if_pos c]
      refine ⟨rg E j, List.mem_of_getElem? (i := j) (by rw [del_get hj, if_pos (Nat.le_refl _)]; exact rg_get hjl), by rw [bkj]⟩
    · rw [if_neg c]
      obtain ⟨i, hi, rfl⟩ := List.mem_iff_getElem.1 he
      have hi' : (ring E)[i]? = some (ring E)[i] := List.getElem?_eq_getElem hi
      have hne : i ≠ j + 1 := by
        rintro rfl
        apply c
        rw [hh, nm_rg hjl1, rg_of hi']
      refine ⟨_, ?_, hh⟩
      by_cases c2 : i ≤ j
      · exact List.mem_of_getElem? (i := i) (by rw [del_get hj, if_pos c2]; exact hi')
      · exact List.mem_of_getElem? (i := i - 1) (by rw [del_get hj, if_neg (by omega), show i - 1 + 1 = i by omega]; exact hi')
  · rw [unlinked_row]; exact g.row8
theorem Ring.congr {t : Sto} (g : Ring s E) (hg : ∀ m ∈ numE E, t.get m = s.get m) (hr : t.row = s.row) (hh : t.hand = s.hand) : Ring t E :=
  ⟨g.nodup, by rw [hr]; exact g.lies, fun i e he => by rw [hg _ (List.mem_map_of_mem (List.mem_of_getElem? he))]; exact g.get i e he, by rw [hr]; exact g.byte, by rw [hh]; exact g.hand, by rw [hr]; exact g.row8⟩
end
end Go.Proofs.YtgmimmdojkoppaaGreatDoor.W
