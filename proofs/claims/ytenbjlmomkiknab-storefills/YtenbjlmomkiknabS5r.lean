/- Package store: what Pack does, in plain words. -/
import Derived.Test.YtenbjlmomkiknabS5l
namespace Go.Proofs.Ytenbjlmomkiknab.W
open Go.ChangeShapes Go.WideShapes Go.RowKit Go.Shelf
set_option linter.unusedVariables false

/-- blocks of the ring in their order, the front first, and where each lies and will lie -/
structure Pk (s : Sto) (c : List Nat) (bl : Nat → Blk) (p l u en : Nat → Nat) : Prop where
  ne : 0 < c.length
  zero : c[0]? = some 0
  nodup : c.Nodup
  get : ∀ i n, c[i]? = some n → s.get n = some (bl i)
  next : ∀ i, i < c.length → (bl i).next = (c[i + 1]?.getD 0 : Nat)
  pos : ∀ i, i < c.length → (bl i).pos = p i
  len : ∀ i, i < c.length → (bl i).len = l i
  up : ∀ i, i < c.length → up8 (l i) = u i
  en0 : en 0 = 0
  en1 : ∀ i, i < c.length → en (i + 1) = en i + u i
  le : ∀ i, i < c.length → en i ≤ p i
  stop : ∀ i, i < c.length → p i + u i ≤ s.row.length
  first : p 0 = 0 ∧ l 0 = 0
  rest : ∀ i, 0 < i → i < c.length → 0 < l i
theorem Pk.lu {s : Sto} {c : List Nat} {bl : Nat → Blk} {p l u en : Nat → Nat} (k : Pk s c bl p l u en) {i : Nat} (hi : i < c.length) : l i ≤ u i ∧ u i ≤ l i + 7 := by
  have := k.up i hi
  unfold up8 at this
  omega
theorem Pk.end_le {s : Sto} {c : List Nat} {bl : Nat → Blk} {p l u en : Nat → Nat} (k : Pk s c bl p l u en) : en c.length ≤ s.row.length := by
  have h0 := k.ne
  obtain ⟨m, hm⟩ : ∃ m, c.length = m + 1 := ⟨c.length - 1, by omega⟩
  rw [hm, k.en1 m (by omega)]
  have h1 := k.le m (by omega)
  have h2 := k.stop m (by omega)
  omega
def packN (s : Sto) (c : List Nat) (bl : Nat → Blk) (p l en : Nat → Nat) : Nat → Sto
  | 0 => s
  | i + 1 => { (packN s c bl p l en i).set (c.getD i 0) { bl i with pos := en i } with row := setL (packN s c bl p l en i).row (en i) (seg (packN s c bl p l en i).row (p i) (l i)), hand := (c.getD i 0 : Nat) }
section
variable {s : Sto} {c : List Nat} {bl : Nat → Blk} {p l u en : Nat → Nat}
theorem packN_row (i : Nat) : (packN s c bl p l en i).row.length = s.row.length := by
  induction i with
  | zero => rfl
  | succ i ih => simp [packN, setL_len, ih]
theorem packN_blks (i : Nat) : (packN s c bl p l en i).blks.length = s.blks.length := by
  induction i with
  | zero => rfl
  | succ i ih => simp [packN, set_len, ih]
theorem packN_rest (i : Nat) : (packN s c bl p l en i).free = s.free ∧ (packN s c bl p l en i).used = s.used ∧ (packN s c bl p l en i).sought = s.sought := by
  induction i with
  | zero => exact ⟨rfl, rfl, rfl⟩
  | succ i ih => simp [packN, set_free, set_used, set_sought, ih]
theorem getD_get {i n : Nat} (h : c[i]? = some n) : c.getD i 0 = n := by simp [List.getD, h]
theorem packN_later (hd : c.Nodup) (i j n : Nat) (h : i ≤ j) (hn : c[j]? = some n) : (packN s c bl p l en i).get n = s.get n := by
  induction i with
  | zero => rfl
  | succ i ih =>
    have hj := (List.getElem?_eq_some_iff.1 hn).1
    have e : c[i]? = some c[i] := List.getElem?_eq_getElem (by omega)
    have hne : n ≠ c.getD i 0 := by
      rw [getD_get e]
      obtain ⟨_, e2⟩ := List.getElem?_eq_some_iff.1 hn
      rw [← e2]
      exact (List.pairwise_iff_getElem.1 hd i j (by omega) hj (by omega)).symm
    show (({ (packN s c bl p l en i).set (c.getD i 0) { bl i with pos := en i } with row := _, hand := _ } : Sto)).get n = _
    have : (({ (packN s c bl p l en i).set (c.getD i 0) { bl i with pos := en i } with row := setL (packN s c bl p l en i).row (en i) (seg (packN s c bl p l en i).row (p i) (l i)), hand := (c.getD i 0 : Nat) } : Sto)).get n = ((packN s c bl p l en i).set (c.getD i 0) { bl i with pos := en i }).get n := rfl
    rw [this, get_set_ne _ hne]
    exact ih (by omega)
theorem packN_earlier (k : Pk s c bl p l u en) (i j n : Nat) (h : j < i) (hi : i ≤ c.length) (hn : c[j]? = some n) : (packN s c bl p l en i).get n = some { bl j with pos := en j } := by
  induction i with
  | zero => omega
  | succ i ih =>
    have hj := (List.getElem?_eq_some_iff.1 hn).1
    have e : c[i]? = some c[i] := List.getElem?_eq_getElem (by omega)
    have this : (packN s c bl p l en (i + 1)).get n = ((packN s c bl p l en i).set (c.getD i 0) { bl i with pos := en i }).get n := rfl
    rw [this]
    by_cases hji : j = i
    · subst hji
      rw [getD_get hn]
      refine get_set_same (b := bl j) ?_ _
      rw [packN_later k.nodup j j n (Nat.le_refl _) hn]
      exact k.get j n hn
    · have hne : n ≠ c.getD i 0 := by
        rw [getD_get e]
        obtain ⟨_, e2⟩ := List.getElem?_eq_some_iff.1 hn
        rw [← e2]
        exact List.pairwise_iff_getElem.1 k.nodup j i hj (by omega) (by omega)
      rw [get_set_ne _ hne]
      exact ih (by omega) (by omega)
end
theorem own_take {W : World} {e : TypeId} {v : Value} {n m : Nat} {xs : List Value} {o : Option Addr} {cap : Nat} (h : W.ownsRow 0 e 1 v n xs) (hv : v = .slice o n cap) (hm : m ≤ n) : W.ownsRow 0 e 1 (.slice o m cap) m (xs.take m) := by
  subst hv
  obtain ⟨h1, h2⟩ := h
  refine ⟨by simp at h1 ⊢; omega, ?_⟩
  rcases h2 with ⟨e, rfl⟩ | ⟨g, cap', cur, e, hb, hg, hc, hcm, hs, ht⟩
  · cases e
    exact .inl ⟨by rw [show m = 0 by omega], by omega⟩
  · cases e
    refine .inr ⟨g, cap, cur, rfl, hb, hg, by omega, hcm, hs, ?_⟩
    rw [← ht, List.take_take]
    congr 1; omega
end Go.Proofs.Ytenbjlmomkiknab.W
