/- StoreFills: the row of lengths, written; the store beside it. -/
import Derived.Test.YtenbjlmomkiknabS6v
namespace Go.Proofs.Ytenbjlmomkiknab.W
open Go.ChangeShapes Go.WideShapes Go.RowKit Go.Shelf
set_option linter.unusedVariables false
def intsV (l : List Int) : List Value := l.map (fun z => .int .i64 z)
/-- the lengths, -1 where given back -/
def gaveV (z : List Int) (G : Nat → Bool) (n : Nat) : List Value := (List.range n).map (fun j => .int .i64 (if G j = true then -1 else z.getD j 0))
theorem gaveV_get (z : List Int) (G : Nat → Bool) (n j : Nat) (h : j < n) : (gaveV z G n)[j]? = some (.int .i64 (if G j = true then -1 else z.getD j 0)) := by
  unfold gaveV; rw [List.getElem?_map, List.getElem?_range h]; rfl
theorem gaveV_len (z : List Int) (G : Nat → Bool) (n : Nat) : (gaveV z G n).length = n := by simp [gaveV]
theorem gaveV_set (z : List Int) (G : Nat → Bool) (n id : Nat) : (gaveV z G n).set id (.int .i64 (-1)) = gaveV z (fun j => if j = id then true else G j) n := by
  apply List.ext_getElem?
  intro j
  by_cases hj : j < n
  · rw [gaveV_get _ _ _ _ hj]
    by_cases e : j = id
    · subst e; rw [List.getElem?_set_self (by rw [gaveV_len]; exact hj)]; simp
    · rw [List.getElem?_set_ne (by omega), gaveV_get _ _ _ _ hj]; simp [e]
  · rw [List.getElem?_eq_none (by rw [List.length_set, gaveV_len]; omega), List.getElem?_eq_none (by rw [gaveV_len]; omega)]
theorem gaveV_all (z : List Int) (n : Nat) (h : n ≤ z.length) : intsV (z.take n) = gaveV z (fun _ => false) n := by
  apply List.ext_getElem?
  intro j
  by_cases hj : j < n
  · rw [gaveV_get _ _ _ _ hj]
    unfold intsV
    rw [List.getElem?_map, List.getElem?_take, if_pos hj, List.getElem?_eq_getElem (by omega)]
    simp [List.getD, List.getElem?_eq_getElem (show j < z.length by omega)]
  · rw [List.getElem?_eq_none (by unfold intsV; rw [List.length_map, List.length_take]; omega), List.getElem?_eq_none (by rw [gaveV_len]; omega)]
theorem putA_get (A : List (Option (List Nat))) (x : Option (List Nat)) : (putA A (leastA A) x)[leastA A]? = some x := by
  unfold putA
  have h := List.findIdx_le_length (xs := A) (p := fun x => x.isNone)
  split
  · rename_i hl
    rw [List.getElem?_set_self hl]
  · rename_i hl
    have e : leastA A = A.length := by unfold leastA at *; omega
    rw [e]; simp
section
variable {W : World} {sb : Nat} {A : List (Option (List Nat))} {B : Nat} {v : Value} {n : Nat} {xs : List Value}
theorem both_slice (h : Both B W sb A v n xs) (hn : 0 < n) : ∃ g cap, v = .slice (some ⟨g, 0, none⟩) n cap ∧ ∀ j, j < n → W.cell? ⟨g, j, none⟩ = xs[j]? := by
  obtain ⟨g, cap, rfl, hc⟩ := own_slice (owns_base h.own (b' := 0) (fun _ _ => Nat.zero_le _)) hn
  exact ⟨g, cap, rfl, fun j hj => h.own.cellAt j (by omega)⟩
theorem both_len (h : Both B W sb A v n xs) : ∃ o cap, v = .slice o n cap := by
  rcases h.own.2 with ⟨rfl, rfl⟩ | ⟨g, cap, cur, rfl, _⟩
  · exact ⟨_, _, rfl⟩
  · exact ⟨_, _, rfl⟩
theorem both_store {g cap : Nat} (h : Both B W sb A (.slice (some ⟨g, 0, none⟩) n cap) n xs) (hB : B ≤ W.heap.size) (i : Nat) (x : Int) :
    W.frozen? ⟨g, i, none⟩ = false ∧ Both B (W.setCell ⟨g, i, none⟩ (.int .i64 x)) sb A (.slice (some ⟨g, 0, none⟩) n cap) n (xs.set i (.int .i64 x)) ∧ Below B W (W.setCell ⟨g, i, none⟩ (.int .i64 x)) := by
  obtain ⟨S, h1, h2, h3⟩ := h.ex
  have hst := (h.own.stored i (.int .i64 x)).1
  have hg := h.own.lt g rfl
  refine ⟨h.own.frozenAt i, ⟨⟨S, h1.on (fun k hk => Below.heap_setCell _ _ _ _ (by rintro rfl; exact h3 _ rfl hk)), fun k hk => ⟨(h2 k hk).1, by simpa [World.setCell] using (h2 k hk).2⟩, h3⟩, hst⟩, ?_⟩
  exact ((Upd.refl (fun k => k = g) W).setCell (p := ⟨g, i, none⟩) (.inl rfl) _).below hB (fun k e => by subst e; exact hg.1)
theorem both_give_err (h : Both B W sb A v n xs) (id : Int) (hx : id < 0 ∨ (A[id.toNat]?).getD none = none) : Calls Try.prog 26 #[.pointer (some ⟨sb, 0, none⟩), .int .i64 id] W fun e w' => e = .returned (.int .i64 30) ∧ w' = W := by
  obtain ⟨S, h1, _⟩ := h.ex
  exact give_st_err h1 id hx
theorem both_len_err (h : Both B W sb A v n xs) (id : Int) (hx : id < 0 ∨ (A[id.toNat]?).getD none = none) : Calls Try.prog 28 #[.pointer (some ⟨sb, 0, none⟩), .int .i64 id] W fun e w' => e = .returned (.tuple #[.int .i64 0, .int .i64 30]) ∧ w' = W := by
  obtain ⟨S, h1, _⟩ := h.ex
  exact len_st_err h1 id hx
theorem both_used (h : Both B W sb A v n xs) : Calls Try.prog 29 #[.pointer (some ⟨sb, 0, none⟩)] W fun e w' => e = .returned (.int .i64 (sumA A : Nat)) ∧ w' = W := by
  obtain ⟨S, h1, _⟩ := h.ex
  exact used_st h1
end
end Go.Proofs.Ytenbjlmomkiknab.W
