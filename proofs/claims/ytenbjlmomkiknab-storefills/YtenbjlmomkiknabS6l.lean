/- Package store: the least Id; what all Ids hold, as a list. -/
import Derived.Test.YtenbjlmomkiknabS6k
namespace Go.Proofs.Ytenbjlmomkiknab.W
set_option linter.unusedVariables false
section
variable {s : Sto} {E : List Ex}
theorem held_none (g : Good s E) {i : Nat} (hi : i < s.blks.length) : held s i = none ↔ (i : Int) ∈ s.free := by
  rw [g.free]
  have hb : s.blks[i]? = some s.blks[i] := List.getElem?_eq_getElem hi
  constructor
  · intro h
    refine ⟨i, rfl, ?_⟩
    by_cases c : i + 1 ∈ numE E
    · obtain ⟨b, e, l⟩ := ring_live g.rng i c
      unfold held at h
      rw [e] at h
      simp [l] at h
    · rcases g.zero i _ hb c with e | e
      · rw [hb, e]
      · unfold held at h
        rw [hb, e] at h
        simp at h
  · rintro ⟨k, e, h⟩
    have : i = k := by omega
    subst this
    unfold held
    rw [h]; rfl
/-- what all Ids hold -/
def All (s : Sto) (A : List (Option (List Nat))) : Prop := s.blks.length = A.length ∧ ∀ i, held s i = (A[i]?).getD none
theorem All.at {A : List (Option (List Nat))} (h : All s A) {i : Nat} (hi : i < A.length) : held s i = A[i] := by
  rw [h.2, List.getElem?_eq_getElem hi]; rfl
def leastA (A : List (Option (List Nat))) : Nat := A.findIdx (fun x => x.isNone)
theorem least_none {A : List (Option (List Nat))} (h : All s A) (g : Good s E) (hf : s.free = []) : leastA A = A.length := by
  unfold leastA
  rw [List.findIdx_eq_length]
  intro x hx
  obtain ⟨i, hi, rfl⟩ := List.mem_iff_getElem.1 hx
  cases e : A[i] with
  | some y => rfl
  | none =>
    have h1 := h.at hi
    rw [e, held_none g (by rw [h.1]; exact hi), hf] at h1
    cases h1
theorem least_some {A : List (Option (List Nat))} (h : All s A) (g : Good s E) (hf : 0 < s.free.length) : hp s.free 0 = (leastA A : Nat) ∧ leastA A < A.length := by
  have hm : hp s.free 0 ∈ s.free := by
    unfold hp
    rw [List.getD, List.getElem?_eq_getElem hf]
    exact List.getElem_mem _
  obtain ⟨k, hk, hb⟩ := (g.free _).1 hm
  have hkl : k < A.length := by rw [← h.1]; exact (List.getElem?_eq_some_iff.1 hb).1
  have hkn : A[k] = none := by
    rw [← h.at hkl, held_none g (by rw [h.1]; exact hkl), ← hk]; exact hm
  have : leastA A = k := by
    unfold leastA
    rw [List.findIdx_eq hkl]
    refine ⟨by rw [hkn]; rfl, ?_⟩
    intro j hj
    cases e : A[j] with
    | some y => rfl
    | none =>
      exfalso
      have h1 := h.at (i := j) (by omega)
      rw [e, held_none g (by rw [h.1]; omega)] at h1
      obtain ⟨q, hq, e2⟩ := List.mem_iff_getElem.1 h1
      have h2 := heap_least g.heap q hq
      have h3 : hp s.free q = (j : Int) := by unfold hp; rw [List.getD, List.getElem?_eq_getElem hq]; exact e2
      omega
  rw [this]
  exact ⟨hk, hkl⟩
def putA (A : List (Option (List Nat))) (id : Nat) (x : Option (List Nat)) : List (Option (List Nat)) := if id < A.length then A.set id x else A ++ [x]
theorem half_new {A : List (Option (List Nat))} (h : All s A) (g : Good s E) (hf : s.free = []) : Half { s with blks := s.blks ++ [noBlk] } E s.blks.length ∧ ∀ i, held { s with blks := s.blks ++ [noBlk] } i = held s i := by
  have hout : s.blks.length + 1 ∉ numE E := by
    intro c
    obtain ⟨b, e, _⟩ := ring_live g.rng _ c
    have := (List.getElem?_eq_some_iff.1 e).1
    omega
  have hold : ∀ i, i ≠ s.blks.length → (s.blks ++ [noBlk])[i]? = s.blks[i]? := by
    intro i hi
    by_cases c : i < s.blks.length
    · rw [List.getElem?_append_left c]
    · rw [List.getElem?_eq_none (by simp; omega), List.getElem?_eq_none (by omega)]
  have hnew : (s.blks ++ [noBlk])[s.blks.length]? = some noBlk := by simp
  refine ⟨⟨g.rng.congr ?_ rfl rfl, hout, hnew, ?_, g.heap, g.nodupF, ?_, g.used⟩, ?_⟩
  · intro m hm
    by_cases c : m = 0
    · rw [c]; rfl
    · obtain ⟨k, rfl⟩ : ∃ k, m = k + 1 := ⟨m - 1, by omega⟩
      rw [get_blks, get_blks]
      exact hold k (by rintro rfl; exact hout hm)
  · intro i b hb hn
    by_cases c : i = s.blks.length
    · subst c; change (s.blks ++ [noBlk])[s.blks.length]? = _ at hb; rw [hnew] at hb; cases hb; exact .inl rfl
    · change (s.blks ++ [noBlk])[i]? = _ at hb
      rw [hold i c] at hb
      exact g.zero i b hb hn
  · intro x
    show x ∈ s.free ↔ ∃ i : Nat, x = i ∧ i ≠ s.blks.length ∧ (s.blks ++ [noBlk])[i]? = some noBlk
    rw [g.free]
    constructor
    · rintro ⟨i, e, hb⟩
      have : i ≠ s.blks.length := by
        have := (List.getElem?_eq_some_iff.1 hb).1; omega
      exact ⟨i, e, this, by rw [hold i this]; exact hb⟩
    · rintro ⟨i, e, hi, hb⟩
      exact ⟨i, e, by rw [← hold i hi]; exact hb⟩
  · intro i
    unfold held
    show (match (s.blks ++ [noBlk])[i]? with | some b => _ | none => _) = _
    by_cases c : i = s.blks.length
    · subst c; rw [hnew, List.getElem?_eq_none (Nat.le_refl _)]; rfl
    · rw [hold i c]; rfl
theorem half_pop {id : Nat} {free' : List Int} (g : Good s E) (hid : hp s.free 0 = (id : Nat)) (hp' : (hp s.free 0 :: free').Perm s.free) (hh : IsHeap free' free'.length) : Half (s.fr free') E id ∧ ∀ i, held (s.fr free') i = held s i := by
  rw [hid] at hp'
  have hm : (id : Int) ∈ s.free := hp'.mem_iff.1 (List.mem_cons_self ..)
  obtain ⟨k, hk, hb⟩ := (g.free _).1 hm
  have : id = k := by omega
  subst this
  have hnd := hp'.nodup_iff.2 g.nodupF
  rw [List.nodup_cons] at hnd
  refine ⟨⟨g.rng.congr (fun _ _ => rfl) rfl rfl, ?_, hb, g.zero, hh, hnd.2, ?_, g.used⟩, fun i => rfl⟩
  · intro c
    obtain ⟨b, e, l⟩ := ring_live g.rng _ c
    rw [hb] at e; cases e; cases l
  · intro x
    show x ∈ free' ↔ _
    constructor
    · intro hx
      have h1 : x ∈ s.free := hp'.mem_iff.1 (List.mem_cons_of_mem _ hx)
      obtain ⟨i, e, hb⟩ := (g.free x).1 h1
      refine ⟨i, e, ?_, hb⟩
      rintro rfl
      exact hnd.1 (e ▸ hx)
    · rintro ⟨i, e, hi, hb⟩
      have h1 : x ∈ s.free := (g.free x).2 ⟨i, e, hb⟩
      rcases List.mem_cons.1 (hp'.mem_iff.2 h1) with c | c
      · omega
      · exact c
/-- no bytes taken -/
theorem half_zero {id : Nat} (h : Half s E id) (hid : id < s.blks.length) : Good (s.took id 0) E ∧ ∀ i, held (s.took id 0) i = if i = id then some [] else held s i := by
  have hs : ∀ i, i ≠ id → (s.took id 0).blks[i]? = s.blks[i]? := fun i hi => blks_set_get _ _ _ hi
  have hi' : (s.took id 0).blks[id]? = some ⟨true, 0, 0, 0, 0⟩ := by rw [← get_blks]; exact took_get_id _ _ hid
  refine ⟨(half_took h 0).good ⟨?_, h.heap, h.nodupF, ?_, ?_⟩, ?_⟩
  · intro i b hb hn
    by_cases c : i = id
    · subst c; rw [hi'] at hb; cases hb; exact .inr rfl
    · rw [hs i c] at hb; exact h.zero i b hb hn
  · intro x
    show x ∈ s.free ↔ _
    rw [h.free]
    constructor
    · rintro ⟨i, e, hi, hb⟩; exact ⟨i, e, by rw [hs i hi]; exact hb⟩
    · rintro ⟨i, e, hb⟩
      have : i ≠ id := by rintro rfl; rw [hi'] at hb; cases hb
      exact ⟨i, e, this, by rw [← hs i this]; exact hb⟩
  · show s.used + up8 0 = _
    rw [h.used, show up8 0 = 0 from rfl, Int.add_zero]
  · intro i
    by_cases c : i = id
    · rw [if_pos c, c]
      unfold held
      rw [hi']; rfl
    · rw [if_neg c]
      unfold held
      rw [hs i c]; rfl
end
end Go.Proofs.Ytenbjlmomkiknab.W
