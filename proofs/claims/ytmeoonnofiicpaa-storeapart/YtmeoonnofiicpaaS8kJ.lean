import Derived.Test.YtmeoonnofiicpaaS8dJ
/- Packing, as it is told: the same Ids in the same order, one behind the other. -/
namespace Go.Proofs.Ytmeoonnofiicpaa.W
open Go.ChangeShapes Go.WideShapes Go.RowKit Go.Shelf
set_option linter.unusedVariables false
section
variable {s : Sto} {E : List Ex}
theorem isZ_held (g : Good s E) (id : Nat) : isZ s id = true ↔ held s id = some [] := by
  unfold isZ held
  cases hb : s.blks[id]? with
  | none => simp
  | some b =>
    simp only
    by_cases hl : b.live = true
    · rw [if_pos hl, hl, Bool.true_and]
      rcases fine_at g hb hl with ⟨k, hk, hkn, rfl⟩ | ⟨_, rfl⟩
      · have hm := rg_memE hk
        obtain ⟨_, h2, _⟩ := g.lies.2.1 _ hm
        have h4 := g.lies.2.2 _ (rg_mem hk)
        have hlen : (seg s.row (rg E (k + 1)).p (rg E (k + 1)).l).length = (rg E (k + 1)).l := seg_len _ _ _ (by unfold Ex.stop up8N at h4; omega)
        constructor
        · intro e
          have e1 : ((((rg E (k + 1)).l : Nat) : Int) == 0) = true := e
          rw [beq_iff_eq] at e1
          omega
        · intro e
          injection e with e
          have e2 := congrArg List.length e
          have e3 : (seg s.row (blkOf E (k + 1) (rg E (k + 1))).pos.toNat (blkOf E (k + 1) (rg E (k + 1))).len.toNat) = seg s.row (rg E (k + 1)).p (rg E (k + 1)).l := rfl
          rw [e3, hlen] at e2
          simp at e2
          omega
      · simp [seg]
    · rw [if_neg hl]
      have : b.live = false := by simpa using hl
      simp [this]
theorem packed_zs (g : Good s E) : (zs (pkd s E) (pkd s E).blks.length).map Tr.i = (zs s s.blks.length).map Tr.i := by
  have hz : isZ (pkd s E) = isZ s := by
    funext id
    rw [Bool.eq_iff_iff, isZ_held g, isZ_held (good_packed g), pack_held g]
  have hn : (pkd s E).blks.length = s.blks.length := packN_blks _
  unfold zs
  rw [List.map_map, List.map_map, hz, hn]
  rfl
theorem packed_ids (g : Good s E) : (extL (pkd s E) (packE E)).map Tr.i = (extL s E).map Tr.i := by
  unfold extL
  rw [List.map_append, List.map_append, packed_zs g]
  congr 1
  unfold trE
  rw [List.map_map, List.map_map]
  apply List.ext_getElem?
  intro i
  rw [List.getElem?_map, List.getElem?_map]
  by_cases c : i < E.length
  · have e1 : (packE E)[i]? = some ⟨(rg E (i + 1)).n, enE E (i + 1), (rg E (i + 1)).l⟩ := by
      unfold packE
      simp [List.getElem?_map, List.getElem?_range c]
    rw [e1, List.getElem?_eq_getElem c]
    have e2 : rg E (i + 1) = E[i] := by unfold rg ring; simp [List.getElem?_eq_getElem c]
    simp [e2]
  · rw [List.getElem?_eq_none (by rw [packE_len]; omega), List.getElem?_eq_none (by omega)]
def sumT (l : List Tr) : Nat := (l.map (fun t => up8N t.l)).foldr (· + ·) 0
theorem sumT_snoc (a : List Tr) (t : Tr) : sumT (a ++ [t]) = sumT a + up8N t.l := by
  induction a with
  | nil => simp [sumT]
  | cons b a ih => simp only [sumT, List.cons_append, List.map_cons, List.foldr_cons] at ih ⊢; omega
theorem sumT_take (T : List Tr) (i : Nat) (u : Tr) (hu : T[i]? = some u) : sumT (T.take (i + 1)) = sumT (T.take i) + up8N u.l := by
  rw [List.take_add_one, hu]
  exact sumT_snoc _ _
theorem rg_E {k : Nat} {e : Ex} (he : E[k]? = some e) : rg E (k + 1) = e := by
  unfold rg ring
  simp [he]
/-- packed, they lie one behind the other -/
theorem packed_at (g : Good s E) (i : Nat) (t : Tr) (ht : (extL (pkd s E) (packE E))[i]? = some t) (hl : 0 < t.l) : t.p = sumT ((extL (pkd s E) (packE E)).take i) := by
  unfold extL at ht ⊢
  have hlen : (trE (packE E)).length = E.length := by unfold trE; rw [List.length_map, packE_len]
  by_cases c : i < E.length
  · rw [List.getElem?_append_left (by omega)] at ht
    rw [List.take_append_of_le_length (by omega)]
    have key : ∀ j, j ≤ E.length → sumT ((trE (packE E)).take j) = enE E (j + 1) := by
      intro j
      induction j with
      | zero => intro _; simp [sumT, enE, rg, ring, front, up8N]
      | succ j ih =>
        intro hj
        have hjr : j + 1 < (ring E).length := by unfold ring; simp; omega
        have hg : (trE (packE E))[j]? = some ⟨(rg E (j + 1)).n - 1, enE E (j + 1), (rg E (j + 1)).l⟩ := by
          unfold trE packE
          simp [List.getElem?_map, List.getElem?_range (by omega : j < E.length)]
        rw [sumT_take _ _ _ hg, ih (by omega)]
        rfl
    have hg : (trE (packE E))[i]? = some ⟨(rg E (i + 1)).n - 1, enE E (i + 1), (rg E (i + 1)).l⟩ := by
      unfold trE packE
      simp [List.getElem?_map, List.getElem?_range c]
    rw [hg] at ht
    cases ht
    rw [key i (by omega)]
  · rw [List.getElem?_append_right (by omega)] at ht
    have := List.mem_of_getElem? ht
    unfold zs at this
    obtain ⟨_, _, rfl⟩ := List.mem_map.1 this
    exact absurd hl (by simp)
end
section
variable {W : World} {S : Nat → Prop} {sb U N : Nat} {A : List (Option (List Nat))}
/-- Pack: what is told ahead of it and behind it -/
theorem pack_sd (h : St W S sb A U N) (hS : ∀ k, S k → k < W.heap.size) : ∃ R T T', R5.Sd W sb A R T ∧ R ≤ 2 * U + 64 ∧ T'.map Tr.i = T.map Tr.i ∧ (∀ i t, T'[i]? = some t → 0 < t.l → t.p = sumT (T'.take i)) ∧
    ∀ W5, Below W.heap.size W W5 → Calls Try.prog 21 #[.pointer (some ⟨sb, 0, none⟩)] W5 fun e w' => e = .returned (.tuple #[]) ∧ Upd S W5 w' ∧ St w' S sb A U N ∧ R5.Sd w' sb A (sumA A) T' := by
  obtain ⟨s, E, vr, vb, vf, hL, hO, f⟩ := h
  have sd : ∀ (W : World) (s : Sto) (E : List Ex) (vr vb vf : Value), Lay W sb vr vb vf s → Own S sb vr vb vf → Fine s E A U N → (∀ k, S k → k < W.heap.size) → R5.Sd W sb A s.row.length (extL s E) := by
    intro W s E vr vb vf hL hO f hS
    have hEl : E.length ≤ s.blks.length := by
      have h1 := ext_count f.good f.all
      have h4 : cntA A ≤ A.length := List.length_filter_le _ _
      have h5 := f.all.1
      unfold extL trE at h1
      rw [List.length_append, List.length_map] at h1
      omega
    have hn := f.num
    have hn9 := f.n9
    have h5 := f.all.1
    have lay : ∀ W', Below W.heap.size W W' → Lay W' sb vr vb vf s := fun W' hB => hL.kept (hB.block _ (hS _ hO.sb)) (fun k e => hB.block _ (hS _ (hO.row k e))) (fun k e => hB.block _ (hS _ (hO.blk k e))) (fun k e => hB.block _ (hS _ (hO.free k e)))
    exact ⟨fun W' hB => ⟨vr, vb, vf, s, E, lay W' hB, f.fit, f.good, by omega, by omega, rfl⟩, fun W' hB => span_c (lay W' hB), fun W' hB => used_st (S := S) ⟨s, E, vr, vb, vf, lay W' hB, hO, f⟩, lie_ext f⟩
  have hrow : (pkd s E).row.length = sumA A := by rw [pkd_row f.good.rng, enE_sum, f.sum]
  refine ⟨s.row.length, extL s E, extL (pkd s E) (packE E), sd W s E vr vb vf hL hO f hS, f.row, packed_ids f.good, packed_at f.good, ?_⟩
  intro W5 hB5
  have hL5 : Lay W5 sb vr vb vf s := hL.kept (hB5.block _ (hS _ hO.sb)) (fun k e => hB5.block _ (hS _ (hO.row k e))) (fun k e => hB5.block _ (hS _ (hO.blk k e))) (fun k e => hB5.block _ (hS _ (hO.free k e)))
  refine (pack_c hL5 f.fit (ring_pk f.good.rng) hO).mono ?_
  rintro e w' ⟨rfl, hU, vr', hL', hO'⟩
  have ff : Fine (pkd s E) (packE E) A U N := by
    refine ⟨good_packed f.good, ⟨?_, ?_⟩, ?_, ?_, ?_, f.top, f.num, f.u9, f.n9⟩
    · exact (packN_blks _).trans f.all.1
    · intro i; rw [pack_held f.good i]; exact f.all.2 i
    · rw [packE_sum]; exact f.sum
    · intro e he
      obtain ⟨x, hx, hl⟩ := packE_lens e he
      rw [← hl]; exact f.lens x hx
    · rw [hrow]
      have := f.top
      omega
  have sd' := sd w' (pkd s E) (packE E) vr' vb vf hL' hO' ff (fun k e => by have := hS k e; have := hU.size; have := hB5.size; omega)
  rw [hrow] at sd'
  exact ⟨rfl, hU, ⟨_, _, _, _, _, hL', hO', ff⟩, sd'⟩
theorem R5.Sd.on {W W' : World} {sb R : Nat} {A : List (Option (List Nat))} {T : List Tr} (h : R5.Sd W sb A R T) (hB : Below W.heap.size W W') : R5.Sd W' sb A R T :=
  ⟨fun w hw => h.tell w (hB.trans (hw.mono hB.size)), fun w hw => h.span w (hB.trans (hw.mono hB.size)), fun w hw => h.used w (hB.trans (hw.mono hB.size)), h.lie⟩
end
end Go.Proofs.Ytmeoonnofiicpaa.W
