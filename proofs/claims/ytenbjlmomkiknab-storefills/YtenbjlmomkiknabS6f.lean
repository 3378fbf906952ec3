/- Package store: the ring alone, and that moving together keeps it. -/
import Derived.Test.YtenbjlmomkiknabS6e
namespace Go.Proofs.Ytenbjlmomkiknab.W
set_option linter.unusedVariables false
/-- what Good says of the ring -/
structure Ring (s : Sto) (E : List Ex) : Prop where
  nodup : ((ring E).map Ex.n).Nodup
  lies : Lies E s.row.length
  get : ∀ i e, (ring E)[i]? = some e → s.get e.n = some (blkOf E i e)
  byte : ∀ x ∈ s.row, x < 256
  hand : ∃ e ∈ ring E, s.hand = (e.n : Nat)
  row8 : s.row.length % 8 = 0
/-- what Good says of the rest, R being whether an Id is in the ring -/
structure Tab (s : Sto) (E : List Ex) : Prop where
  zero : ∀ id b, s.blks[id]? = some b → id + 1 ∉ (ring E).map Ex.n → b = noBlk ∨ b = ⟨true, 0, 0, 0, 0⟩
  heap : IsHeap s.free s.free.length
  nodupF : s.free.Nodup
  free : ∀ x : Int, x ∈ s.free ↔ ∃ id : Nat, x = id ∧ s.blks[id]? = some noBlk
  used : s.used = ((E.map (fun e => up8N e.l)).foldr (· + ·) 0 : Nat)
theorem Good.rng {s : Sto} {E : List Ex} (g : Good s E) : Ring s E := ⟨g.nodup, g.lies, g.get, g.byte, g.hand, g.row8⟩
theorem Good.tab {s : Sto} {E : List Ex} (g : Good s E) : Tab s E := ⟨g.zero, g.heap, g.nodupF, g.free, g.used⟩
theorem Ring.good {s : Sto} {E : List Ex} (g : Ring s E) (t : Tab s E) : Good s E := ⟨g.nodup, g.lies, g.get, g.byte, g.hand, t.zero, t.heap, t.nodupF, t.free, t.used, g.row8⟩
section
variable {s : Sto} {E : List Ex}
theorem ring_pk (g : Ring s E) : Pk s (numE E) (fun i => blkOf E i (rg E i)) (fun i => (rg E i).p) (fun i => (rg E i).l) (fun i => up8N (rg E i).l) (enE E) := by
  have hl : (numE E).length = (ring E).length := by rw [numE_len, ring_len]
  refine ⟨by rw [numE_len]; omega, rfl, g.nodup, ?_, ?_, fun i hi => rfl, fun i hi => rfl, fun i hi => up8N_eq _, rfl, fun i hi => rfl, fun i hi => enE_le g.lies (by omega), fun i hi => ?_, ⟨rfl, rfl⟩, fun i h0 hi => ?_⟩
  · intro i n h
    obtain ⟨h1, rfl⟩ := numE_get h
    exact g.get i _ (rg_get h1)
  · intro i hi
    show (((ring E)[i + 1]?.map Ex.n).getD 0 : Nat) = (((numE E)[i + 1]?.getD 0 : Nat) : Int)
    rw [numE, List.getElem?_map]
  · exact g.lies.2.2 _ (rg_mem (by omega))
  · obtain ⟨m, rfl⟩ : ∃ m, i = m + 1 := ⟨i - 1, by omega⟩
    exact (g.lies.2.1 _ (rg_memE (by omega))).2.1
theorem ring_bytes (g : Ring s E) (i : Nat) (hi : i ≤ (ring E).length) : (∀ j, i ≤ j → j < (ring E).length → seg (pkE s E i).row (rg E j).p (rg E j).l = seg s.row (rg E j).p (rg E j).l) ∧ (∀ j, j < i → seg (pkE s E i).row (enE E j) (rg E j).l = seg s.row (rg E j).p (rg E j).l) := by
  induction i with
  | zero => exact ⟨fun _ _ _ => rfl, fun j h => absurd h (by omega)⟩
  | succ i ih =>
    obtain ⟨h1, h2⟩ := ih (by omega)
    have hrl : (pkE s E i).row.length = s.row.length := packN_row i
    have hst := g.lies.2.2 _ (rg_mem (E := E) (i := i) (by omega))
    have hen := enE_le g.lies (i := i) (by omega)
    have hup := up8N_ge (rg E i).l
    unfold Ex.stop at hst
    have hlen : (seg (pkE s E i).row (rg E i).p (rg E i).l).length = (rg E i).l := seg_len _ _ _ (by omega)
    have hrow : (pkE s E (i + 1)).row = setL (pkE s E i).row (enE E i) (seg (pkE s E i).row (rg E i).p (rg E i).l) := rfl
    refine ⟨fun j hj hjl => ?_, fun j hj => ?_⟩
    · have hlt := rg_lt g.lies (i := i) (j := j) (by omega) hjl
      unfold Ex.stop at hlt
      rw [hrow, seg_setL_out _ _ _ _ _ (by omega) (.inr (by omega))]
      exact h1 j (by omega) hjl
    · rw [hrow]
      by_cases e : j = i
      · subst e
        have := seg_setL_in (pkE s E j).row (enE E j) (seg (pkE s E j).row (rg E j).p (rg E j).l) (by omega)
        rw [hlen] at this
        rw [this]
        exact h1 j (Nat.le_refl _) (by omega)
      · have hm := enE_mono (E := E) (i := j + 1) (j := i) (by omega)
        have hu := up8N_ge (rg E j).l
        have he : enE E (j + 1) = enE E j + up8N (rg E j).l := rfl
        rw [seg_setL_out _ _ _ _ _ (by omega) (.inl (by omega))]
        exact h2 j (by omega)
/-- the store, its extents moved together -/
abbrev pkd (s : Sto) (E : List Ex) : Sto := packedSto s (numE E) (fun i => blkOf E i (rg E i)) (fun i => (rg E i).p) (fun i => (rg E i).l) (enE E)
theorem numlen : (numE E).length = (ring E).length := by rw [numE_len, ring_len]
theorem pkd_row (g : Ring s E) : (pkd s E).row.length = enE E (ring E).length := by
  have h1 := (ring_pk g).end_le
  have h2 : (pkE s E (numE E).length).row.length = s.row.length := packN_row _
  show ((pkE s E (numE E).length).row.take (enE E (numE E).length)).length = _
  rw [List.length_take, h2, ← numlen]
  omega
theorem packE_map (i : Nat) : (ring (packE E))[i]?.map Ex.n = (ring E)[i]?.map Ex.n := by
  have := congrArg (fun l => l[i]?) (packE_num (E := E))
  unfold numE at this
  simpa [List.getElem?_map] using this
theorem blkOf_pack (i : Nat) : blkOf (packE E) i ⟨(rg E i).n, enE E i, (rg E i).l⟩ = { blkOf E i (rg E i) with pos := (enE E i : Nat) } := by
  unfold blkOf
  rw [packE_map, packE_map, packE_len]
theorem enE_le_all {i : Nat} (h : i < (ring E).length) : enE E i + up8N (rg E i).l ≤ enE E (ring E).length := enE_mono (E := E) (i := i + 1) h
theorem packed_lies {r : Nat} (k : Lies E r) : Lies (packE E) (enE E (ring E).length) := by
  have hl : (ring (packE E)).length = (ring E).length := by rw [ring_len, ring_len, packE_len]
  have key : ∀ e ∈ ring (packE E), ∃ i, i < (ring E).length ∧ e = ⟨(rg E i).n, enE E i, (rg E i).l⟩ := by
    intro e he
    obtain ⟨i, hi, rfl⟩ := List.mem_iff_getElem.1 he
    have h1 := packE_get (E := E) (i := i) (by omega)
    rw [List.getElem?_eq_getElem hi] at h1
    exact ⟨i, by omega, Option.some.inj h1⟩
  refine ⟨?_, ?_, ?_⟩
  · intro i e f he hf
    have h2 := (List.getElem?_eq_some_iff.1 hf).1
    rw [packE_get (by omega)] at he
    rw [packE_get (by omega)] at hf
    cases he; cases hf
    exact Nat.le_refl _
  · intro e he
    obtain ⟨i, hi, rfl⟩ := List.mem_iff_getElem.1 he
    have h1 := packE_get (E := E) (i := i + 1) (by rw [packE_len] at hi; rw [ring_len]; omega)
    unfold ring at h1
    rw [List.getElem?_cons_succ, List.getElem?_eq_getElem hi] at h1
    rw [Option.some.inj h1]
    have h2 := k.2.1 _ (rg_memE (E := E) (i := i) (by rw [packE_len] at hi; rw [ring_len]; omega))
    exact ⟨enE_mod _, h2.2⟩
  · intro e he
    obtain ⟨i, hi, rfl⟩ := key e he
    exact enE_le_all hi
theorem ring_packed (g : Ring s E) : Ring (pkd s E) (packE E) := by
  have k := ring_pk g
  have hn := numlen (E := E)
  refine ⟨?_, ?_, ?_, ?_, ?_, ?_⟩
  · show (numE (packE E)).Nodup
    rw [packE_num]; exact g.nodup
  · rw [pkd_row g]; exact packed_lies g.lies
  · intro i e he
    have hi := (List.getElem?_eq_some_iff.1 he).1
    rw [ring_len, packE_len] at hi
    have hi' : i < (ring E).length := by rw [ring_len]; omega
    rw [packE_get hi'] at he
    cases he
    rw [blkOf_pack]
    exact packN_earlier k (numE E).length i _ (by omega) (Nat.le_refl _) (by unfold numE; rw [List.getElem?_map, rg_get hi']; rfl)
  · intro x hx
    exact packN_byte _ g.byte x (List.mem_of_mem_take hx)
  · have hlast : (numE E)[(numE E).length - 1]? = some (rg E ((ring E).length - 1)).n := by
      unfold numE; rw [List.getElem?_map, List.length_map, rg_get (by rw [ring_len]; omega)]; rfl
    refine ⟨⟨(rg E ((ring E).length - 1)).n, enE E ((ring E).length - 1), (rg E ((ring E).length - 1)).l⟩, List.mem_of_getElem? (packE_get (by rw [ring_len]; omega)), ?_⟩
    exact packN_hand hlast
  · rw [pkd_row g]; exact enE_mod _
theorem packed_used : ((packE E).map (fun e => up8N e.l)).foldr (· + ·) 0 = (E.map (fun e => up8N e.l)).foldr (· + ·) 0 := by
  congr 1
  apply List.ext_getElem?
  intro i
  rw [List.getElem?_map, List.getElem?_map]
  by_cases h : i < E.length
  · have h1 := packE_get (E := E) (i := i + 1) (by rw [ring_len]; omega)
    have h2 := rg_get (E := E) (i := i + 1) (by rw [ring_len]; omega)
    unfold ring at h1 h2
    rw [List.getElem?_cons_succ] at h1 h2
    rw [h1, h2]; rfl
  · rw [List.getElem?_eq_none (by rw [packE_len]; omega), List.getElem?_eq_none (by omega)]
theorem get_blks (s : Sto) (id : Nat) : s.get (id + 1) = s.blks[id]? := by unfold Sto.get; rw [if_neg (by omega)]; rfl
theorem pkd_out (id : Nat) (h : id + 1 ∉ numE E) : (pkd s E).blks[id]? = s.blks[id]? := by
  rw [← get_blks, ← get_blks]
  exact packN_other _ _ (Nat.le_refl _) h
theorem ring_live (g : Ring s E) (id : Nat) (h : id + 1 ∈ numE E) : ∃ b, s.blks[id]? = some b ∧ b.live = true := by
  obtain ⟨j, hj, e⟩ := List.mem_iff_getElem.1 h
  have h1 : (numE E)[j]? = some (id + 1) := by rw [List.getElem?_eq_getElem hj, e]
  obtain ⟨h2, h3⟩ := numE_get h1
  have h4 := g.get j _ (rg_get h2)
  rw [← h3, get_blks] at h4
  refine ⟨_, h4, ?_⟩
  show decide (0 < j) = true
  have : j ≠ 0 := by rintro rfl; exact absurd h3 (by show ¬ id + 1 = 0; omega)
  simp; omega
theorem good_packed (g : Good s E) : Good (pkd s E) (packE E) := by
  have hr := packN_rest (s := s) (c := numE E) (bl := fun i => blkOf E i (rg E i)) (p := fun i => (rg E i).p) (l := fun i => (rg E i).l) (en := enE E) (numE E).length
  refine (ring_packed g.rng).good ⟨?_, ?_, ?_, ?_, ?_⟩
  · intro id b hb hn
    have hn' : id + 1 ∉ numE E := by rw [← packE_num]; exact hn
    rw [pkd_out id hn'] at hb
    exact g.zero id b hb hn'
  · show IsHeap (pkE s E _).free (pkE s E _).free.length
    rw [hr.1]; exact g.heap
  · show (pkE s E _).free.Nodup
    rw [hr.1]; exact g.nodupF
  · intro x
    show x ∈ (pkE s E _).free ↔ _
    rw [hr.1, g.free x]
    have key : ∀ id : Nat, s.blks[id]? = some noBlk ↔ (pkd s E).blks[id]? = some noBlk := by
      intro id
      by_cases h : id + 1 ∈ numE E
      · obtain ⟨b1, e1, l1⟩ := ring_live g.rng id h
        obtain ⟨b2, e2, l2⟩ := ring_live (ring_packed g.rng) id (by rw [packE_num]; exact h)
        rw [e1, e2]
        constructor
        · rintro e; cases e; cases l1
        · rintro e; cases e; cases l2
      · rw [pkd_out id h]
    constructor
    · rintro ⟨id, e, h⟩; exact ⟨id, e, (key id).1 h⟩
    · rintro ⟨id, e, h⟩; exact ⟨id, e, (key id).2 h⟩
  · show (pkE s E _).used = _
    rw [hr.2.1, packed_used]; exact g.used
end
end Go.Proofs.Ytenbjlmomkiknab.W
