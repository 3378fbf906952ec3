/- Package store: from the ring as a list to what Pack and seek ask. -/
import Derived.Test.YtenbjlmomkiknabS6c
namespace Go.Proofs.Ytenbjlmomkiknab.W
set_option linter.unusedVariables false
def rg (E : List Ex) (i : Nat) : Ex := (ring E).getD i front
/-- where packing puts the i-th -/
def enE (E : List Ex) : Nat → Nat
  | 0 => 0
  | i + 1 => enE E i + up8N (rg E i).l
def numE (E : List Ex) : List Nat := (ring E).map Ex.n
section
variable {s : Sto} {E : List Ex}
theorem rg_get {i : Nat} (h : i < (ring E).length) : (ring E)[i]? = some (rg E i) := by
  unfold rg
  rw [List.getD, List.getElem?_eq_getElem h]; rfl
theorem rg_of {i : Nat} {e : Ex} (h : (ring E)[i]? = some e) : rg E i = e := by
  unfold rg
  rw [List.getD, h]; rfl
theorem ring_len : (ring E).length = E.length + 1 := rfl
theorem numE_len : (numE E).length = E.length + 1 := by simp [numE, ring]
theorem numE_get {i n : Nat} (h : (numE E)[i]? = some n) : i < (ring E).length ∧ n = (rg E i).n := by
  unfold numE at h
  rw [List.getElem?_map] at h
  cases e : (ring E)[i]? with
  | none => rw [e] at h; cases h
  | some x =>
    rw [e] at h
    cases h
    exact ⟨(List.getElem?_eq_some_iff.1 e).1, by rw [rg_of e]⟩
theorem rg_succ {r : Nat} (k : Lies E r) {i : Nat} (h : i + 1 < (ring E).length) : (rg E i).stop ≤ (rg E (i + 1)).p := k.1 i _ _ (rg_get (by omega)) (rg_get h)
theorem enE_le {r : Nat} (k : Lies E r) {i : Nat} (h : i < (ring E).length) : enE E i ≤ (rg E i).p := by
  induction i with
  | zero => exact Nat.zero_le _
  | succ i ih =>
    have h1 := ih (by omega)
    have h2 := rg_succ k h
    unfold Ex.stop at h2
    show enE E i + up8N (rg E i).l ≤ _
    omega
theorem rg_mem {i : Nat} (h : i < (ring E).length) : rg E i ∈ ring E := List.mem_of_getElem? (rg_get h)
theorem rg_memE {i : Nat} (h : i + 1 < (ring E).length) : rg E (i + 1) ∈ E := by
  have := rg_get h
  unfold ring at this
  rw [List.getElem?_cons_succ] at this
  exact List.mem_of_getElem? this
theorem good_pk (g : Good s E) : Pk s (numE E) (fun i => blkOf E i (rg E i)) (fun i => (rg E i).p) (fun i => (rg E i).l) (fun i => up8N (rg E i).l) (enE E) := by
  have hl : (numE E).length = (ring E).length := by rw [numE_len, ring_len]
  refine ⟨by rw [numE_len]; omega, rfl, g.nodup, ?_, ?_, fun i hi => rfl, fun i hi => rfl, fun i hi => up8N_eq _, rfl, fun i hi => rfl, fun i hi => enE_le g.lies (by omega), fun i hi => ?_, ⟨rfl, rfl⟩, fun i h0 hi => ?_⟩
  · intro i n h
    obtain ⟨h1, rfl⟩ := numE_get h
    exact g.get i _ (rg_get h1)
  · intro i hi
    show (((ring E)[i + 1]?.map Ex.n).getD 0 : Nat) = (((numE E)[i + 1]?.getD 0 : Nat) : Int)
    rw [numE, List.getElem?_map]
  · exact g.lies.2.2 _ (rg_mem (by omega))
  · obtain ⟨m, rfl⟩ : ∃ m, i = m + 1 := ⟨i - 1, by omega⟩
    exact (g.lies.2.1 _ (rg_memE (by omega))).2.1
end
end Go.Proofs.Ytenbjlmomkiknab.W
