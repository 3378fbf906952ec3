import Derived.Test.YtmeoonnofiicpaaBase5
import Derived.Deep.Upon
import Derived.Lib.AppendZeros
import Derived.BigQuiet
/- The reference's list of extents, in plain words. -/
namespace Go.Proofs.Ytmeoonnofiicpaa.W.R5
open Go.ChangeShapes Go.WideShapes Go.RowKit Go.Shelf
set_option linter.unusedVariables false
/-- who holds what, rising -/
def refL : List (Option (List Nat)) → Nat → List (Nat × List Nat)
  | [], _ => []
  | none :: r, k => refL r (k + 1)
  | some x :: r, k => (k, x) :: refL r (k + 1)
theorem refL_app (A B : List (Option (List Nat))) (k : Nat) : refL (A ++ B) k = refL A k ++ refL B (k + A.length) := by
  induction A generalizing k with
  | nil => simp [refL]
  | cons a A ih =>
    cases a with
    | none => simp only [List.cons_append, refL, ih, List.length_cons]; rw [show k + 1 + A.length = k + (A.length + 1) by omega]
    | some x => simp only [List.cons_append, refL, ih, List.length_cons]; rw [show k + 1 + A.length = k + (A.length + 1) by omega]
theorem refL_in (A : List (Option (List Nat))) (k : Nat) : ∀ p ∈ refL A k, k ≤ p.1 ∧ p.1 < k + A.length := by
  induction A generalizing k with
  | nil => intro p hp; simp [refL] at hp
  | cons a A ih =>
    intro p hp
    cases a with
    | none =>
      have := ih (k + 1) p hp
      simp only [List.length_cons]; omega
    | some x =>
      rcases List.mem_cons.1 hp with rfl | hp
      · simp
      · have := ih (k + 1) p hp
        simp only [List.length_cons]; omega
theorem refL_len (A : List (Option (List Nat))) (k : Nat) : (refL A k).length = cntA A := by
  induction A generalizing k with
  | nil => rfl
  | cons a A ih =>
    cases a with
    | none => rw [cntA_cons]; simp [refL, ih]
    | some x => rw [cntA_cons]; simp [refL, ih]; omega
/-- those of which each holds something -/
theorem refL_full (A : List (Option (List Nat))) (k : Nat) (h : ∀ x ∈ A, x.isSome = true) : (refL A k).length = A.length ∧ ∀ j p, (refL A k)[j]? = some p → p.1 = k + j := by
  induction A generalizing k with
  | nil => exact ⟨rfl, fun j p e => by simp [refL] at e⟩
  | cons a A ih =>
    obtain ⟨h1, h2⟩ := ih (k + 1) (fun x hx => h x (List.mem_cons_of_mem _ hx))
    cases a with
    | none => exact absurd (h none (List.mem_cons_self ..)) (by simp)
    | some x =>
      refine ⟨by simp [refL, h1], ?_⟩
      intro j p e
      cases j with
      | zero => simp [refL] at e; subst e; simp
      | succ j =>
        simp [refL] at e
        have := h2 j p e
        omega
/-- an Id, and those on either side of it -/
theorem split_at (A : List (Option (List Nat))) (id : Nat) (h : id < A.length) : A = A.take id ++ A[id] :: A.drop (id + 1) := by
  rw [← List.drop_eq_getElem_cons h, List.take_append_drop]
theorem refL_at (A : List (Option (List Nat))) (id : Nat) (h : id < A.length) : refL A 0 = refL (A.take id) 0 ++ refL (A[id] :: A.drop (id + 1)) id := by
  have e := congrArg (fun B => refL B 0) (split_at A id h)
  simp only [refL_app, Nat.zero_add, List.length_take, Nat.min_eq_left (Nat.le_of_lt h)] at e
  exact e
theorem refL_set (A : List (Option (List Nat))) (id : Nat) (h : id < A.length) (y : Option (List Nat)) : refL (A.set id y) 0 = refL (A.take id) 0 ++ refL (y :: A.drop (id + 1)) id := by
  have h' : id < (A.set id y).length := by rw [List.length_set]; exact h
  have e := refL_at (A.set id y) id h'
  rw [List.take_set_of_le (Nat.le_refl _), List.drop_set_of_lt (by omega), List.getElem_set_self] at e
  exact e
theorem least_full (A : List (Option (List Nat))) : ∀ x ∈ A.take (leastA A), x.isSome = true := by
  intro x hx
  obtain ⟨j, hj, e⟩ := List.mem_iff_getElem.1 hx
  rw [List.length_take] at hj
  rw [List.getElem_take] at e
  have := List.not_of_lt_findIdx (p := fun x => x.isNone) (xs := A) (i := j) (by unfold leastA at hj; omega)
  subst e
  cases hx2 : A[j] with
  | none => rw [hx2] at this; cases this
  | some y => rfl
/-- an extent of the list, and where its bytes lie -/
structure En where
  id : Nat
  xs : List Nat
  b : Nat
def En.pr (e : En) : Nat × List Nat := (e.id, e.xs)
def En.cells (e : En) : List Value := [.int .i64 (e.id : Nat), .slice (some ⟨e.b, 0, none⟩) e.xs.length e.xs.length]
def flatE (l : List En) : List Value := l.flatMap En.cells
theorem flatE_cons (b : En) (r : List En) : flatE (b :: r) = b.cells ++ flatE r := by simp [flatE]
theorem flatE_app (a b : List En) : flatE (a ++ b) = flatE a ++ flatE b := by simp [flatE]
theorem flatE_len (l : List En) : (flatE l).length = l.length * 2 := by
  induction l with
  | nil => rfl
  | cons b r ih => rw [flatE_cons, List.length_append, ih]; simp only [En.cells, List.length_cons, List.length_nil]; omega
theorem flatE_take (l : List En) (n : Nat) (h : n ≤ l.length) : (flatE l).take (n * 2) = flatE (l.take n) := by
  have e : flatE l = flatE (l.take n) ++ flatE (l.drop n) := by rw [← flatE_app, List.take_append_drop]
  rw [e, List.take_append_of_le_length (by rw [flatE_len, List.length_take]; omega), List.take_of_length_le (by rw [flatE_len, List.length_take]; omega)]
theorem flatE_drop (l : List En) (n : Nat) (h : n ≤ l.length) : (flatE l).drop (n * 2) = flatE (l.drop n) := by
  have e : flatE l = flatE (l.take n) ++ flatE (l.drop n) := by rw [← flatE_app, List.take_append_drop]
  rw [e, List.drop_append_of_le_length (by rw [flatE_len, List.length_take]; omega), List.drop_of_length_le (by rw [flatE_len, List.length_take]; omega), List.nil_append]
theorem flatE_get (l : List En) (i j : Nat) (b : En) (h : l[i]? = some b) (hj : j < 2) : (flatE l)[i * 2 + j]? = b.cells[j]? := by
  induction l generalizing i with
  | nil => simp at h
  | cons c r ih =>
    rw [flatE_cons]
    cases i with
    | zero =>
      simp at h
      subst h
      rw [List.getElem?_append_left (by simp [En.cells]; omega)]
      simp
    | succ i =>
      simp at h
      rw [List.getElem?_append_right (by simp [En.cells]; omega), show (i + 1) * 2 + j - c.cells.length = i * 2 + j by simp [En.cells]; omega]
      exact ih i h
/-- the place of an Id -/
def place (l : List En) (id : Int) : Nat := l.findIdx (fun e => decide (id ≤ (e.id : Int)))
theorem place_le (l : List En) (id : Int) : place l id ≤ l.length := List.findIdx_le_length
theorem place_lt (l : List En) (id : Int) (j : Nat) (e : En) (h : j < place l id) (he : l[j]? = some e) : (e.id : Int) < id := by
  have h1 := List.not_of_lt_findIdx (p := fun e : En => decide (id ≤ (e.id : Int))) (xs := l) h
  have h2 : l[j]'(Nat.lt_of_lt_of_le h (place_le l id)) = e := (List.getElem?_eq_some_iff.1 he).2
  rw [h2] at h1
  simp at h1
  exact h1
theorem place_at (l : List En) (id : Int) (e : En) (he : l[place l id]? = some e) : id ≤ (e.id : Int) := by
  obtain ⟨h1, h2⟩ := List.getElem?_eq_some_iff.1 he
  have := List.findIdx_getElem (p := fun e : En => decide (id ≤ (e.id : Int))) (xs := l) (w := h1)
  unfold place at h2
  rw [h2] at this
  simpa using this
/-- it is the first place that is not below -/
theorem place_is (l : List En) (id : Int) (n : Nat) (hn : n ≤ l.length) (h1 : ∀ j e, j < n → l[j]? = some e → (e.id : Int) < id) (h2 : ∀ e, l[n]? = some e → id ≤ (e.id : Int)) : place l id = n := by
  rcases Nat.lt_trichotomy (place l id) n with h | h | h
  · obtain ⟨e, he⟩ : ∃ e, l[place l id]? = some e := ⟨_, List.getElem?_eq_getElem (by omega)⟩
    have a1 := place_at l id e he
    have a2 := h1 _ e h he
    omega
  · exact h
  · obtain ⟨e, he⟩ : ∃ e, l[n]? = some e := ⟨_, List.getElem?_eq_getElem (by have := place_le l id; omega)⟩
    have a1 := place_lt l id n e h he
    have a2 := h2 e he
    omega
section
variable {l : List En} {A : List (Option (List Nat))}
theorem en_get (h : l.map En.pr = refL A 0) (j : Nat) : (l[j]?).map En.pr = (refL A 0)[j]? := by rw [← h, List.getElem?_map]
/-- an Id that holds something -/
theorem place_some (h : l.map En.pr = refL A 0) {id : Nat} {x : List Nat} (hx : A[id]? = some (some x)) : place l id = (refL (A.take id) 0).length ∧ ∃ e, l[place l id]? = some e ∧ e.id = id ∧ e.xs = x := by
  obtain ⟨hl, hv⟩ := List.getElem?_eq_some_iff.1 hx
  have e1 := refL_at A id hl
  rw [hv] at e1
  simp only [refL] at e1
  have hT := refL_in (A.take id) 0
  have hD := refL_in (A.drop (id + 1)) (id + 1)
  have hlen : (refL (A.take id) 0).length < l.length := by
    have := congrArg List.length h
    rw [List.length_map, e1, List.length_append, List.length_cons] at this
    omega
  have hg : (l[(refL (A.take id) 0).length]?).map En.pr = some (id, x) := by
    rw [en_get h, e1, List.getElem?_append_right (Nat.le_refl _), Nat.sub_self]; rfl
  obtain ⟨e, he⟩ : ∃ e, l[(refL (A.take id) 0).length]? = some e := ⟨_, List.getElem?_eq_getElem hlen⟩
  rw [he] at hg
  simp only [Option.map_some, Option.some.injEq, En.pr, Prod.mk.injEq] at hg
  have hp : place l id = (refL (A.take id) 0).length := by
    refine place_is l id _ (Nat.le_of_lt hlen) ?_ ?_
    · intro j f hj hf
      have h3 := en_get h j
      rw [hf, e1, List.getElem?_append_left hj] at h3
      have h4 := hT _ (List.mem_of_getElem? h3.symm)
      simp only [En.pr, List.length_take, Nat.zero_add] at h4
      omega
    · intro f hf
      rw [he] at hf
      cases hf
      omega
  exact ⟨hp, e, by rw [hp]; exact he, hg.1, hg.2⟩
/-- one that holds nothing -/
theorem place_none (h : l.map En.pr = refL A 0) {id : Int} (hx : id < 0 ∨ (A[id.toNat]?).getD none = none) (e : En) (he : l[place l id]? = some e) : ¬ (e.id : Int) = id := by
  intro c
  have h1 := en_get h (place l id)
  rw [he] at h1
  have h2 := List.mem_of_getElem? h1.symm
  have key : ∀ (A : List (Option (List Nat))) (k : Nat) (p : Nat × List Nat), p ∈ refL A k → A[p.1 - k]? = some (some p.2) := by
    intro A
    induction A with
    | nil => intro k p hp; simp [refL] at hp
    | cons a A ih =>
      intro k p hp
      have tail : p ∈ refL A (k + 1) → (a :: A)[p.1 - k]? = some (some p.2) := by
        intro hp
        have h3 := (refL_in A (k + 1) p hp).1
        rw [show p.1 - k = (p.1 - (k + 1)) + 1 by omega, List.getElem?_cons_succ]
        exact ih (k + 1) p hp
      cases a with
      | none => exact tail hp
      | some x =>
        rcases List.mem_cons.1 hp with rfl | hp
        · simp
        · exact tail hp
  have h3 := key A 0 _ h2
  simp only [En.pr, Nat.sub_zero] at h3
  rcases hx with hx | hx
  · omega
  · rw [← c] at hx
    simp only [Int.toNat_natCast] at hx
    rw [h3] at hx
    cases hx
/-- the least Id that holds nothing -/
theorem least_place (h : l.map En.pr = refL A 0) : leastA A ≤ l.length ∧ (∀ j e, j < leastA A → l[j]? = some e → e.id = j) ∧ (∀ e, l[leastA A]? = some e → leastA A < e.id) ∧ place l (leastA A : Nat) = leastA A := by
  have hle := least_le A
  obtain ⟨f1, f2⟩ := refL_full (A.take (leastA A)) 0 (least_full A)
  rw [List.length_take, Nat.min_eq_left hle] at f1
  have hsp : ∃ B, refL A 0 = refL (A.take (leastA A)) 0 ++ B ∧ ∀ p ∈ B, leastA A < p.1 := by
    by_cases c : leastA A < A.length
    · refine ⟨_, refL_at A _ c, ?_⟩
      rw [least_is_none c]
      intro p hp
      have := (refL_in (A.drop (leastA A + 1)) (leastA A + 1) p hp).1
      omega
    · refine ⟨[], ?_, fun p hp => by simp at hp⟩
      rw [List.append_nil, List.take_of_length_le (by omega)]
  obtain ⟨B, hB1, hB2⟩ := hsp
  have hlen : leastA A ≤ l.length := by
    have := congrArg List.length h
    rw [List.length_map, hB1, List.length_append, f1] at this
    omega
  have a1 : ∀ j e, j < leastA A → l[j]? = some e → e.id = j := by
    intro j e hj he
    have h3 := en_get h j
    rw [he, hB1, List.getElem?_append_left (by omega)] at h3
    have := f2 j _ h3.symm
    simpa [En.pr] using this
  have a2 : ∀ e, l[leastA A]? = some e → leastA A < e.id := by
    intro e he
    have h3 := en_get h (leastA A)
    rw [he, hB1, List.getElem?_append_right (by omega)] at h3
    exact hB2 _ (List.mem_of_getElem? h3.symm)
  refine ⟨hlen, a1, a2, place_is l _ _ hlen ?_ ?_⟩
  · intro j e hj he
    have := a1 j e hj he
    omega
  · intro e he
    have := a2 e he
    omega
/-- taken -/
theorem taken_is (h : l.map En.pr = refL A 0) (x : List Nat) (b : Nat) : (l.take (leastA A) ++ [En.mk (leastA A) x b] ++ l.drop (leastA A)).map En.pr = refL (putA A (leastA A) (some x)) 0 := by
  have hle := least_le A
  obtain ⟨f1, f2⟩ := refL_full (A.take (leastA A)) 0 (least_full A)
  rw [List.length_take, Nat.min_eq_left hle] at f1
  rw [List.map_append, List.map_append, List.map_take, List.map_drop, h]
  unfold putA
  by_cases c : leastA A < A.length
  · rw [if_pos c, refL_set A _ c, refL_at A _ c, least_is_none c]
    simp only [refL]
    rw [List.take_append_of_le_length (by omega), List.take_of_length_le (by omega), List.drop_append_of_le_length (by omega), List.drop_of_length_le (by omega)]
    simp [En.pr]
  · have e : leastA A = A.length := by omega
    rw [if_neg c, refL_app]
    rw [List.take_of_length_le (by omega)] at f1
    rw [List.take_of_length_le (by omega), List.drop_of_length_le (by omega)]
    simp [refL, En.pr]; exact e
/-- given back -/
theorem given_is (h : l.map En.pr = refL A 0) {id : Nat} {x : List Nat} (hx : A[id]? = some (some x)) : (l.take (place l id) ++ l.drop (place l id + 1)).map En.pr = refL (A.set id none) 0 := by
  obtain ⟨hl, hv⟩ := List.getElem?_eq_some_iff.1 hx
  obtain ⟨hp, _⟩ := place_some h hx
  rw [List.map_append, List.map_take, List.map_drop, h, refL_set A id hl, refL_at A id hl, hv, hp]
  simp only [refL]
  rw [List.take_append_of_le_length (Nat.le_refl _), List.take_of_length_le (Nat.le_refl _), List.drop_append, List.drop_of_length_le (by omega)]
  simp
/-- written -/
theorem wrote_is (h : l.map En.pr = refL A 0) {id : Nat} {x y : List Nat} (hx : A[id]? = some (some x)) {e : En} (he : l[place l id]? = some e) (hi : e.id = id) : (l.set (place l id) ⟨id, y, e.b⟩).map En.pr = refL (A.set id (some y)) 0 := by
  obtain ⟨hl, hv⟩ := List.getElem?_eq_some_iff.1 hx
  obtain ⟨hp, _⟩ := place_some h hx
  rw [List.map_set, h, refL_set A id hl, refL_at A id hl, hv, hp]
  simp only [refL, En.pr]
  rw [List.set_append_right _ _ (Nat.le_refl _), Nat.sub_self, List.set_cons_zero]
end
end Go.Proofs.Ytmeoonnofiicpaa.W.R5
/- The reference's store: how it lies; find, Len, Used, Reach. -/
namespace Go.Proofs.Ytmeoonnofiicpaa.W.R5
open Go.ChangeShapes Go.WideShapes Go.RowKit Go.Shelf
set_option linter.unusedVariables false
set_option linter.unusedSimpArgs false
def u8s (xs : List Nat) : List Value := xs.map (fun x => .int .u8 (x : Nat))
/-- the reference's store at rb, all of it behind B0 -/
structure Rs (B0 : Nat) (W : World) (rb : Nat) (A : List (Option (List Nat))) (M : Nat) (l : List En) (v : Value) : Prop where
  top : W.heap[rb]? = some (.cells #[v, .int .i64 (M : Nat)] 29 (0, 0))
  row : W.ownsRow B0 63 2 v l.length (flatE l)
  is : l.map En.pr = refL A 0
  byt : ∀ e ∈ l, W.heap[e.b]? = some (.cells (u8s e.xs).toArray 5 (0, 0))
  dis : (l.map En.b).Nodup
  out : ∀ e ∈ l, e.b ≠ rb ∧ v.ownBlock ≠ some e.b
  own : v.ownBlock ≠ some rb
  lo : B0 ≤ rb ∧ ∀ e ∈ l, B0 ≤ e.b
  low : ∀ x ∈ refL A 0, ∀ b ∈ x.2, b < 256
  num : A.length ≤ 1000
  len : ∀ x ∈ refL A 0, x.2.length ≤ 8388608
section
variable {B0 : Nat} {W : World} {rb M g n cap : Nat} {A : List (Option (List Nat))} {l : List En} {v : Value}
theorem Rs.lt (h : Rs B0 W rb A M l v) : l.length ≤ 1000 := by
  have h1 := congrArg List.length h.is
  rw [List.length_map, refL_len] at h1
  have h2 : cntA A ≤ A.length := List.length_filter_le _ _
  have := h.num
  omega
theorem Rs.mem (h : Rs B0 W rb A M l v) {e : En} (he : e ∈ l) : e.pr ∈ refL A 0 := by rw [← h.is]; exact List.mem_map_of_mem he
theorem Rs.id (h : Rs B0 W rb A M l v) {e : En} (he : e ∈ l) : e.id < 1000 := by
  have := (refL_in A 0 _ (h.mem he)).2
  have := h.num
  simp only [En.pr] at *
  omega
/-- a cell of the row -/
theorem Rs.cell (h : Rs B0 W rb A M l (.slice (some ⟨g, 0, none⟩) n cap)) {k j : Nat} {e : En} (he : l[k]? = some e) (hj : j < 2) : W.cell? ⟨g, k * 2 + j, none⟩ = e.cells[j]? := by
  have hk := (List.getElem?_eq_some_iff.1 he).1
  have hr := h.row
  obtain ⟨o, cap', hv⟩ := slice_of (owns_base hr (b' := 0) (fun _ _ => Nat.zero_le _))
  injection hv with _ hn _
  subst hn
  rw [hr.cellAt (k * 2 + j) (by omega), flatE_get l k j e he hj]
set_option maxRecDepth 100000 in
theorem find_c (h : Rs B0 W rb A M l v) (id : Int) : Calls Try.prog 31 #[(Value.pointer (some ⟨rb, 0, none⟩)), .int .i64 id] W fun e w' => e = .returned (.tuple #[.int .i64 (place l id : Nat), .bool (match l[place l id]? with | some e => (e.id : Int) == id | none => false)]) ∧ Below W.heap.size W w' := by
  obtain ⟨o, cap, rfl⟩ := slice_of (owns_base h.row (b' := 0) (fun _ _ => Nat.zero_le _))
  have c0 : W.cell? ⟨rb, 0, none⟩ = some (.slice o l.length cap) := cell_of_row _ _ 0 _ _ _ h.top
  have hl := h.lt
  have H := hid h
  clear h
  obtain ⟨n, hn⟩ : ∃ n, l.length = n := ⟨_, rfl⟩
  have hpl := place_le l id
  rw [hn] at c0 hl hpl
  have HN := hid hn
  clear hn
  obtain ⟨r, hr⟩ : ∃ r, (match l[place l id]? with | some e => (e.id : Int) == id | none => false) = r := ⟨_, rfl⟩
  obtain ⟨p, hp⟩ : ∃ p, place l id = p := ⟨_, rfl⟩
  rw [hr, hp]
  have HR := hid hr
  have HP := hid hp
  rw [hp] at hpl
  clear hr hp
  go_enter Try.func31, Try.ntmps31
  go_wp2
  go_loopw [6] (fun ii wr => ∃ k : Nat, k ≤ p ∧ ii = .int .i64 k ∧ wr = W) (fun ii _ => n - (intOf ii).toNat)
  case atStart => exact ⟨0, Nat.zero_le _, rfl, rfl⟩
  case round =>
    obtain ⟨k, hk, rfl, rfl⟩ := hrel
    by_cases hkn : k < n
    · obtain ⟨e, he⟩ : ∃ e, l[k]? = some e := ⟨_, List.getElem?_eq_getElem (by rw [HN.out]; exact hkn)⟩
      obtain ⟨g, cap', hv, _⟩ := own_slice (owns_base H.out.row (b' := 0) (fun _ _ => Nat.zero_le _)) (by rw [HN.out]; omega)
      injection hv with hv1 hv2 hv3
      subst hv1
      clear hv2 hv3
      have c1 := H.out.cell he (show 0 < 2 by omega)
      simp only [En.cells, List.getElem?_cons_zero, Nat.add_zero] at c1
      have k0 : (0 : Int) ≤ k := Int.natCast_nonneg _
      have k1 : (k : Int) < n := by omega
      by_cases hlt : (e.id : Int) < id
      · have hk1 : k + 1 ≤ p := by
          rcases Nat.lt_or_ge k p with h | h
          · exact h
          · have e1 : place l id = k := by have := HP.out; omega
            have := place_at l id e (by rw [e1]; exact he)
            omega
        have wk : IntKind.i64.wrap ((k : Int) + 1) = (k : Int) + 1 := by rw [IntKind.wrap_i64]; omega
        have HM := hid (show n - ((k : Int) + 1).toNat < n - ((k : Int)).toNat by omega)
        have HK := hid hk1
        clear hk1 hpl hl he hk H
        go_wp2
        go_roundw
        case rel => exact ⟨k + 1, HK.out, rfl, by trivial⟩
        case measure => exact HM.out
      · have e1 : p = k := by
          rcases Nat.lt_or_ge k p with h | h
          · exact absurd (place_lt l id k e (by rw [HP.out]; exact h) he) hlt
          · omega
        have hge : id ≤ (e.id : Int) := by omega
        have hpost : ((e.id : Int) == id) = r := by rw [← HR.out, HP.out, e1, he]
        subst e1
        clear hpl hl he hk H HR HP
        by_cases hne : (e.id : Int) = id
        · obtain rfl : r = true := by rw [← hpost]; simpa using hne
          have hqq : ((e.id : Int) == id) = true := hpost
          clear hpost hne
          go_wp2
          go_region
          go_wp2
          go_ret2
          exact ⟨rfl, (Below.refl _ _).drew⟩
        · obtain rfl : r = false := by rw [← hpost]; simpa using hne
          have hqq : ((e.id : Int) == id) = false := hpost
          clear hpost hne
          go_wp2
          go_region
          go_wp2
          go_ret2
          exact ⟨rfl, (Below.refl _ _).drew⟩
    · have e1 : p = k := by omega
      obtain rfl : r = false := by rw [← HR.out, List.getElem?_eq_none (by have := HP.out; rw [HN.out]; omega)]
      have hk1 : ¬ (k : Int) < n := by omega
      subst e1
      clear hpl hl hk H HR HP
      go_wp2
      go_region
      go_wp2
      go_ret2
      exact ⟨rfl, (Below.refl _ _).drew⟩
/-- the blocks that are its -/
def Mine5 (rb : Nat) (l : List En) (v : Value) (k : Nat) : Prop := k = rb ∨ v.ownBlock = some k ∨ ∃ e ∈ l, e.b = k
theorem Rs.on {W' : World} (h : Rs B0 W rb A M l v) (hk : ∀ k, Mine5 rb l v k → W'.heap[k]? = W.heap[k]?) : Rs B0 W' rb A M l v :=
  ⟨(hk _ (.inl rfl)).trans h.top, owns_on h.row (fun k e => hk k (.inr (.inl e))), h.is, fun e he => (hk _ (.inr (.inr ⟨e, he, rfl⟩))).trans (h.byt e he), h.dis, h.out, h.own, h.lo, h.low, h.num, h.len⟩
theorem Rs.blk_lt (h : Rs B0 W rb A M l v) (k : Nat) (hk : Mine5 rb l v k) : B0 ≤ k ∧ k < W.heap.size := by
  rcases hk with rfl | hk | ⟨e, he, rfl⟩
  · exact ⟨h.lo.1, (Array.getElem?_eq_some_iff.1 h.top).1⟩
  · exact h.row.lt k hk
  · exact ⟨h.lo.2 e he, (Array.getElem?_eq_some_iff.1 (h.byt e he)).1⟩
theorem Rs.below {W' : World} (h : Rs B0 W rb A M l v) (hB : Below W.heap.size W W') : Rs B0 W' rb A M l v :=
  h.on (fun k e => hB.block k (h.blk_lt k e).2)
/-- what find says of an Id that holds something, and of another -/
theorem find_some (h : Rs B0 W rb A M l v) {id : Nat} {x : List Nat} (hx : A[id]? = some (some x)) : ∃ e, l[place l id]? = some e ∧ e.id = id ∧ e.xs = x ∧ Calls Try.prog 31 #[(Value.pointer (some ⟨rb, 0, none⟩)), .int .i64 id] W fun e w' => e = .returned (.tuple #[.int .i64 (place l id : Nat), .bool true]) ∧ Below W.heap.size W w' := by
  obtain ⟨_, e, h1, h2, h3⟩ := place_some h.is hx
  have hc := find_c h (id : Int)
  rw [h1] at hc
  simp only [h2, beq_self_eq_true] at hc
  exact ⟨e, h1, h2, h3, hc⟩
theorem find_none (h : Rs B0 W rb A M l v) {id : Int} (hx : id < 0 ∨ (A[id.toNat]?).getD none = none) : Calls Try.prog 31 #[(Value.pointer (some ⟨rb, 0, none⟩)), .int .i64 id] W fun e w' => e = .returned (.tuple #[.int .i64 (place l id : Nat), .bool false]) ∧ Below W.heap.size W w' := by
  have hc := find_c h id
  cases he : l[place l id]? with
  | none => rw [he] at hc; exact hc
  | some e =>
    rw [he] at hc
    have := place_none h.is hx e he
    simp only [beq_eq_false_iff_ne.2 this] at hc
    exact hc
theorem rlen_none (h : Rs B0 W rb A M l v) {id : Int} (hx : id < 0 ∨ (A[id.toNat]?).getD none = none) : Calls Try.prog 16 #[(Value.pointer (some ⟨rb, 0, none⟩)), .int .i64 id] W fun e w' => e = .returned (.tuple #[.int .i64 0, .int .i64 30]) ∧ Below W.heap.size W w' := by
  have hc := find_none h hx
  clear h hx
  go_enter Try.func16, Try.ntmps16
  go_wp2_with (go_at_call 31; (with_reducible refine hc.mono ?_); rintro e w2 ⟨rfl, b2⟩; clear hc)
  go_ret2
  exact ⟨rfl, b2⟩
/-- the extent at a place: its bytes -/
theorem Rs.at (h : Rs B0 W rb A M l v) {k : Nat} {e : En} (he : l[k]? = some e) : ∃ g cap, v = .slice (some ⟨g, 0, none⟩) l.length cap ∧ (k : Int) < (l.length : Nat) ∧ W.cell? ⟨rb, 0, none⟩ = some (.slice (some ⟨g, 0, none⟩) l.length cap) ∧ W.cell? ⟨g, k * 2, none⟩ = some (.int .i64 (e.id : Nat)) ∧ W.cell? ⟨g, k * 2 + 1, none⟩ = some (.slice (some ⟨e.b, 0, none⟩) e.xs.length e.xs.length) := by
  have hk := (List.getElem?_eq_some_iff.1 he).1
  obtain ⟨g, cap, rfl, _⟩ := own_slice (owns_base h.row (b' := 0) (fun _ _ => Nat.zero_le _)) (by omega)
  refine ⟨g, cap, rfl, by omega, cell_of_row _ _ 0 _ _ _ h.top, ?_, ?_⟩
  · have c1 := h.cell he (show 0 < 2 by omega)
    simpa only [En.cells, List.getElem?_cons_zero, Nat.add_zero] using c1
  · have c1 := h.cell he (show 1 < 2 by omega)
    simpa only [En.cells, List.getElem?_cons_zero, List.getElem?_cons_succ] using c1
theorem rlen_some (h : Rs B0 W rb A M l v) {id : Nat} {x : List Nat} (hx : A[id]? = some (some x)) : Calls Try.prog 16 #[(Value.pointer (some ⟨rb, 0, none⟩)), .int .i64 id] W fun e w' => e = .returned (.tuple #[.int .i64 (x.length : Nat), .int .i64 0]) ∧ Below W.heap.size W w' := by
  obtain ⟨e, h1, h2, h3, hc⟩ := find_some h hx
  have hat := fun w' (hB : Below W.heap.size W w') => (h.below hB).at h1
  rw [h3] at hat
  have HAT := hid hat
  generalize place l id = k at *
  generalize l.length = n at *
  clear h hx hat h1 h3
  go_enter Try.func16, Try.ntmps16
  go_upto_region 4 with (go_at_call 31; (with_reducible refine hc.mono ?_); rintro e w2 ⟨rfl, b2⟩; clear hc)
  obtain ⟨g, cap, _, hkn, c0, c1, c2⟩ := HAT.out w2 b2
  have k0 : (0 : Int) ≤ k := Int.natCast_nonneg _
  clear HAT
  go_wp2
  go_ret2
  exact ⟨rfl, b2⟩
end
end Go.Proofs.Ytmeoonnofiicpaa.W.R5
/- The reference's store: Used, Reach. -/
namespace Go.Proofs.Ytmeoonnofiicpaa.W.R5
open Go.ChangeShapes Go.WideShapes Go.RowKit Go.Shelf
set_option linter.unusedVariables false
set_option linter.unusedSimpArgs false
def sumR (l : List En) : Nat := (l.map (fun e => up8N e.xs.length)).foldr (· + ·) 0
theorem sumR_cons (e : En) (l : List En) : sumR (e :: l) = up8N e.xs.length + sumR l := rfl
theorem sumR_app (a b : List En) : sumR (a ++ b) = sumR a + sumR b := by
  induction a with
  | nil => simp [sumR]
  | cons e a ih => rw [List.cons_append, sumR_cons, sumR_cons, ih]; omega
theorem sumR_take (l : List En) (k : Nat) (e : En) (he : l[k]? = some e) : sumR (l.take (k + 1)) = sumR (l.take k) + up8N e.xs.length := by
  rw [List.take_add_one, he, sumR_app]
  rfl
theorem sumR_is {l : List En} {A : List (Option (List Nat))} (h : l.map En.pr = refL A 0) : sumR l = sumA A := by
  have key : ∀ (A : List (Option (List Nat))) (k : Nat), ((refL A k).map (fun p => up8N p.2.length)).foldr (· + ·) 0 = sumA A := by
    intro A
    induction A with
    | nil => intro k; rfl
    | cons a A ih =>
      intro k
      cases a with
      | none => rw [sumA_cons]; simp only [refL, lenA, Nat.zero_add]; exact ih (k + 1)
      | some x => rw [sumA_cons]; simp only [refL, lenA, List.map_cons, List.foldr_cons]; rw [ih (k + 1)]
  rw [← key A 0, ← h, List.map_map]
  rfl
theorem sumR_le (l : List En) (m : Nat) (h : ∀ e ∈ l, e.xs.length ≤ 8388608) (hm : l.length ≤ m) : sumR l ≤ m * 8388608 := by
  induction l generalizing m with
  | nil => exact Nat.zero_le _
  | cons e l ih =>
    obtain ⟨k, rfl⟩ : ∃ k, m = k + 1 := ⟨m - 1, by simp at hm; omega⟩
    have h1 := ih k (fun f hf => h f (List.mem_cons_of_mem _ hf)) (by simpa using hm)
    have h2 := h e (List.mem_cons_self ..)
    rw [sumR_cons]
    have h3 : up8N e.xs.length ≤ 8388608 := by unfold up8N; omega
    omega
section
variable {B0 : Nat} {W : World} {rb M g n cap : Nat} {A : List (Option (List Nat))} {l : List En} {v : Value}
theorem Rs.xs_le (h : Rs B0 W rb A M l v) {e : En} (he : e ∈ l) : e.xs.length ≤ 8388608 := h.len _ (h.mem he)
theorem rused_c (h : Rs B0 W rb A M l v) : Calls Try.prog 26 #[(Value.pointer (some ⟨rb, 0, none⟩))] W fun e w' => e = .returned (.int .i64 (sumA A : Nat)) ∧ w' = W := by
  rw [← sumR_is h.is]
  obtain ⟨o, cap, hv⟩ := slice_of (owns_base h.row (b' := 0) (fun _ _ => Nat.zero_le _))
  have c0 : W.cell? ⟨rb, 0, none⟩ = some (.slice o l.length cap) := by rw [← hv]; exact cell_of_row _ _ 0 _ _ _ h.top
  have hl := h.lt
  have htot := sumR_le l l.length (fun e he => h.xs_le he) (Nat.le_refl _)
  have H := hid h
  have HV := hid hv
  clear h hv
  obtain ⟨n, hn⟩ : ∃ n, l.length = n := ⟨_, rfl⟩
  obtain ⟨t, ht⟩ : ∃ t, sumR l = t := ⟨_, rfl⟩
  rw [hn] at c0 hl htot
  rw [ht] at htot
  rw [ht]
  have HN := hid hn
  have HT := hid ht
  have htb : t ≤ 8388608000 := by omega
  clear hn ht htot
  go_enter Try.func26, Try.ntmps26
  go_wp2
  go_loopw [3, 4] (fun ss ii wr => ∃ k s : Nat, k ≤ n ∧ ii = .int .i64 k ∧ ss = .int .i64 s ∧ s = sumR (l.take k) ∧ wr = W) (fun _ ii _ => n - (intOf ii).toNat)
  case atStart => exact ⟨0, 0, Nat.zero_le _, rfl, rfl, rfl, rfl⟩
  case round =>
    obtain ⟨k, s, hk, rfl, rfl, hs, rfl⟩ := hrel
    by_cases hkn : k < n
    · obtain ⟨e, he⟩ : ∃ e, l[k]? = some e := ⟨_, List.getElem?_eq_getElem (by rw [HN.out]; exact hkn)⟩
      obtain ⟨g, cap', hv, hkl, d0, c1, c2⟩ := H.out.at he
      have hv' := HV.out.symm.trans hv
      injection hv' with hv1 hv2 hv3
      subst hv1
      clear hv hv2 hv3 d0 c1
      have hx := H.out.xs_le (List.mem_of_getElem? he)
      have hst := sumR_take l k e he
      have hsl : sumR (l.take (k + 1)) ≤ t := by
        have h1 := sumR_app (l.take (k + 1)) (l.drop (k + 1))
        rw [List.take_append_drop, HT.out] at h1
        omega
      rw [← hs] at hst
      have HS := hid hst
      rw [hst] at hsl
      have k0 : (0 : Int) ≤ k := Int.natCast_nonneg _
      have k1 : (k : Int) < n := by omega
      have wk : IntKind.i64.wrap ((k : Int) + 1) = (k : Int) + 1 := by rw [IntKind.wrap_i64]; omega
      have HM := hid (show n - ((k : Int) + 1).toNat < n - ((k : Int)).toNat by omega)
      generalize e.xs.length = L at *
      have a1 : IntKind.i64.wrap ((L : Int) + 7) = (L : Int) + 7 := by rw [IntKind.wrap_i64]; omega
      have a2 : Int.tdiv ((L : Int) + 7) 8 = ((L + 7) / 8 : Nat) := by rw [Int.tdiv_eq_ediv_of_nonneg (by omega)]; omega
      have a3 : IntKind.i64.wrap (((L + 7) / 8 : Nat) : Int) = ((L + 7) / 8 : Nat) := by rw [IntKind.wrap_i64]; omega
      have a4 : IntKind.i64.wrap ((((L + 7) / 8 : Nat) : Int) * 8) = (up8N L : Nat) := by rw [IntKind.wrap_i64]; unfold up8N; omega
      have a5 : IntKind.i64.wrap ((s : Int) + (up8N L : Nat)) = (s + up8N L : Nat) := by rw [IntKind.wrap_i64]; omega
      have HKN := hid hkn
      clear hst hsl hs hk hkl hx he H HV hl htb hkn
      generalize ((((L + 7) / 8 : Nat)) : Int) = q8 at *
      go_wp2
      go_roundw
      case rel => exact ⟨k + 1, s + up8N L, HKN.out, rfl, rfl, HS.out.symm, by trivial⟩
      case measure => exact HM.out
    · have e1 : k = n := by omega
      have hk1 : ¬ (k : Int) < n := by omega
      have hst : s = t := by rw [hs, ← HT.out, List.take_of_length_le (by rw [HN.out]; omega)]
      subst hst
      clear H HV hl htb hk hs e1 hkn
      go_wp2
      go_ret
      exact ⟨rfl, rfl⟩
end
theorem reach_c (W : World) (n : Nat) (off wd : Int) (hn : n ≤ 8388608) : Calls Try.prog 36 #[.int .i64 n, .int .i64 off, .int .i64 wd] W fun e w' => e = .returned (.int .i64 (reachE n off wd)) ∧ w' = W := by
  unfold reachE
  by_cases hw : wd = 1 ∨ wd = 2 ∨ wd = 4 ∨ wd = 8
  · rw [if_neg (fun h => h hw)]
    by_cases ha : off % wd = 0
    · rw [if_neg (by simpa using ha)]
      have ht := tmod_eq off wd ha
      have ht2 : (off % wd != 0) = false := by simp [ha]
      by_cases ho : off < 0 ∨ off > n - wd
      · rw [if_pos ho]
        by_cases h0 : off < 0
        · rcases hw with rfl | rfl | rfl | rfl <;> (
            clear ha ho
            go_enter Try.func36, Try.ntmps36
            go_wp2
            go_ret
            exact ⟨rfl, rfl⟩)
        · by_cases h1 : off > n
          · rcases hw with rfl | rfl | rfl | rfl <;> (
              clear ha ho
              go_enter Try.func36, Try.ntmps36
              go_wp2
              go_ret
              exact ⟨rfl, rfl⟩)
          · have ws : IntKind.i64.wrap ((n : Int) - off) = (n : Int) - off := by rw [IntKind.wrap_i64]; omega
            rcases hw with rfl | rfl | rfl | rfl
            · have h2 : (n : Int) - off < 1 := by omega
              clear ha ho
              go_enter Try.func36, Try.ntmps36
              go_wp2
              go_ret
              exact ⟨rfl, rfl⟩
            · have h2 : (n : Int) - off < 2 := by omega
              clear ha ho
              go_enter Try.func36, Try.ntmps36
              go_wp2
              go_ret
              exact ⟨rfl, rfl⟩
            · have h2 : (n : Int) - off < 4 := by omega
              clear ha ho
              go_enter Try.func36, Try.ntmps36
              go_wp2
              go_ret
              exact ⟨rfl, rfl⟩
            · have h2 : (n : Int) - off < 8 := by omega
              clear ha ho
              go_enter Try.func36, Try.ntmps36
              go_wp2
              go_ret
              exact ⟨rfl, rfl⟩
      · rw [if_neg ho]
        have h0 : ¬ off < 0 := by omega
        have h1 : ¬ off > n := by rcases hw with rfl | rfl | rfl | rfl <;> omega
        have ws : IntKind.i64.wrap ((n : Int) - off) = (n : Int) - off := by rw [IntKind.wrap_i64]; omega
        have h2 : ¬ (n : Int) - off < wd := by omega
        rcases hw with rfl | rfl | rfl | rfl <;> (
          clear ha ho
          go_enter Try.func36, Try.ntmps36
          go_wp2
          go_ret
          exact ⟨rfl, rfl⟩)
    · rw [if_pos (by simpa using ha)]
      have ht := tmod_ne off wd ha
      rcases hw with rfl | rfl | rfl | rfl
      · omega
      all_goals (
        go_enter Try.func36, Try.ntmps36
        go_wp2
        go_ret
        exact ⟨rfl, rfl⟩)
  · rw [if_pos (by simpa using hw)]
    have w1 : (wd != 1) = true := by simp; omega
    have w2 : (wd != 2) = true := by simp; omega
    have w4 : (wd != 4) = true := by simp; omega
    have w8 : (wd != 8) = true := by simp; omega
    clear hw
    go_enter Try.func36, Try.ntmps36
    go_wp2
    go_ret
    exact ⟨rfl, rfl⟩
end Go.Proofs.Ytmeoonnofiicpaa.W.R5
/- The reference's store: Load, Save. -/
namespace Go.Proofs.Ytmeoonnofiicpaa.W.R5
open Go.ChangeShapes Go.WideShapes Go.RowKit Go.Shelf
set_option linter.unusedVariables false
set_option linter.unusedSimpArgs false
section
variable {B0 : Nat} {W : World} {rb M g n cap : Nat} {A : List (Option (List Nat))} {l : List En} {v : Value}
theorem rload_none (h : Rs B0 W rb A M l v) {id off wd : Int} (hx : id < 0 ∨ (A[id.toNat]?).getD none = none) : Calls Try.prog 18 #[(Value.pointer (some ⟨rb, 0, none⟩)), .int .i64 id, .int .i64 off, .int .i64 wd] W fun e w' => e = .returned (.tuple #[.int .u64 0, .int .i64 30]) ∧ Below W.heap.size W w' := by
  have hc := find_none h hx
  clear h hx
  go_enter Try.func18, Try.ntmps18
  go_wp2_with (go_at_call 31; (with_reducible refine hc.mono ?_); rintro e w2 ⟨rfl, b2⟩; clear hc)
  go_ret2
  exact ⟨rfl, b2⟩
theorem rsave_none (h : Rs B0 W rb A M l v) {id off wd : Int} {x : Value} (hx : id < 0 ∨ (A[id.toNat]?).getD none = none) : Calls Try.prog 20 #[(Value.pointer (some ⟨rb, 0, none⟩)), .int .i64 id, .int .i64 off, .int .i64 wd, x] W fun e w' => e = .returned (.int .i64 30) ∧ Below W.heap.size W w' := by
  have hc := find_none h hx
  clear h hx
  go_enter Try.func20, Try.ntmps20
  go_wp2_with (go_at_call 31; (with_reducible refine hc.mono ?_); rintro e w2 ⟨rfl, b2⟩; clear hc)
  go_ret
  exact ⟨rfl, b2⟩
theorem rload_bad (h : Rs B0 W rb A M l v) {id : Nat} {x : List Nat} (hx : A[id]? = some (some x)) {off wd : Int} (he : reachE x.length off wd ≠ 0) : Calls Try.prog 18 #[(Value.pointer (some ⟨rb, 0, none⟩)), .int .i64 id, .int .i64 off, .int .i64 wd] W fun e w' => e = .returned (.tuple #[.int .u64 0, .int .i64 (reachE x.length off wd)]) ∧ Below W.heap.size W w' := by
  obtain ⟨e, h1, h2, h3, hc⟩ := find_some h hx
  have hxl : x.length ≤ 8388608 := by rw [← h3]; exact h.xs_le (List.mem_of_getElem? h1)
  have hr := fun w' => reach_c w' x.length off wd hxl
  have hat := fun w' (hB : Below W.heap.size W w') => (h.below hB).at h1
  rw [h3] at hat
  have HAT := hid hat
  have hne : (reachE x.length off wd != 0) = true := by simpa using he
  generalize reachE x.length off wd = r at *
  generalize place l id = k at *
  generalize l.length = n at *
  generalize x.length = L at *
  clear h hx hat h1 h3 he hxl
  go_enter Try.func18, Try.ntmps18
  go_upto_region 4 with (go_at_call 31; (with_reducible refine hc.mono ?_); rintro e w2 ⟨rfl, b2⟩; clear hc)
  obtain ⟨g, cap, _, hkn, c0, c1, c2⟩ := HAT.out w2 b2
  have k0 : (0 : Int) ≤ k := Int.natCast_nonneg _
  clear HAT
  go_wp2_with (go_at_call 36; (with_reducible refine (hr _).mono ?_); rintro e w3 ⟨rfl, hw3⟩; (have hw' := hw3.symm); subst hw'; clear hw3)
  go_ret2
  exact ⟨rfl, b2⟩
theorem rsave_bad (h : Rs B0 W rb A M l v) {id : Nat} {x : List Nat} (hx : A[id]? = some (some x)) {off wd : Int} {y : Value} (he : reachE x.length off wd ≠ 0) : Calls Try.prog 20 #[(Value.pointer (some ⟨rb, 0, none⟩)), .int .i64 id, .int .i64 off, .int .i64 wd, y] W fun e w' => e = .returned (.int .i64 (reachE x.length off wd)) ∧ Below W.heap.size W w' := by
  obtain ⟨e, h1, h2, h3, hc⟩ := find_some h hx
  have hxl : x.length ≤ 8388608 := by rw [← h3]; exact h.xs_le (List.mem_of_getElem? h1)
  have hr := fun w' => reach_c w' x.length off wd hxl
  have hat := fun w' (hB : Below W.heap.size W w') => (h.below hB).at h1
  rw [h3] at hat
  have HAT := hid hat
  have hne : (reachE x.length off wd != 0) = true := by simpa using he
  generalize reachE x.length off wd = r at *
  generalize place l id = k at *
  generalize l.length = n at *
  generalize x.length = L at *
  clear h hx hat h1 h3 he hxl
  go_enter Try.func20, Try.ntmps20
  go_upto_region 4 with (go_at_call 31; (with_reducible refine hc.mono ?_); rintro e w2 ⟨rfl, b2⟩; clear hc)
  obtain ⟨g, cap, _, hkn, c0, c1, c2⟩ := HAT.out w2 b2
  have k0 : (0 : Int) ≤ k := Int.natCast_nonneg _
  clear HAT
  go_wp2_with (go_at_call 36; (with_reducible refine (hr _).mono ?_); rintro e w3 ⟨rfl, hw3⟩; (have hw' := hw3.symm); subst hw'; clear hw3)
  go_ret
  exact ⟨rfl, b2⟩
/-- a byte -/
theorem Rs.byte (h : Rs B0 W rb A M l v) {k : Nat} {e : En} (he : l[k]? = some e) (j b : Nat) (hb : e.xs[j]? = some b) : W.cell? ⟨e.b, j, none⟩ = some (.int .u8 (b : Nat)) := by
  have h1 := h.byt e (List.mem_of_getElem? he)
  rw [cell_of_row _ _ j _ _ _ h1]
  simp [u8s, hb]
theorem seg_down (x : List Nat) (o j m b : Nat) (hb : x[o + j]? = some b) (hj : j < m) : leN (seg x (o + j) (m - j)) = 256 * leN (seg x (o + (j + 1)) (m - (j + 1))) + b := by
  have hl := (List.getElem?_eq_some_iff.1 hb).1
  unfold seg
  rw [List.drop_eq_getElem_cons hl, (List.getElem?_eq_some_iff.1 hb).2, show m - j = (m - (j + 1)) + 1 by omega, List.take_succ_cons, leN, Nat.add_assoc]
  omega
theorem seg_sub {x : List Nat} (h : ∀ b ∈ x, b < 256) (a n : Nat) : ∀ b ∈ seg x a n, b < 256 := fun b hb => h b (List.mem_of_mem_drop (List.mem_of_mem_take hb))
theorem reach_ok (n o wd : Nat) (hw : wd = 1 ∨ wd = 2 ∨ wd = 4 ∨ wd = 8) (ha : o % wd = 0) (ho : o + wd ≤ n) : reachE n o wd = 0 := by
  unfold reachE
  have h1 : (o : Int) % (wd : Int) = 0 := by omega
  rw [if_neg (fun h => h (by omega)), if_neg (fun h => h h1), if_neg (by omega)]
theorem rload_ok (h : Rs B0 W rb A M l v) {id : Nat} {x : List Nat} (hx : A[id]? = some (some x)) (o wd : Nat) (hw : wd = 1 ∨ wd = 2 ∨ wd = 4 ∨ wd = 8) (ha : o % wd = 0) (ho : o + wd ≤ x.length) : Calls Try.prog 18 #[(Value.pointer (some ⟨rb, 0, none⟩)), .int .i64 id, .int .i64 o, .int .i64 wd] W fun e w' => e = .returned (.tuple #[.int .u64 (leN (seg x o wd) : Nat), .int .i64 0]) ∧ Below W.heap.size W w' := by
  obtain ⟨e, h1, h2, h3, hc⟩ := find_some h hx
  have hxl : x.length ≤ 8388608 := by rw [← h3]; exact h.xs_le (List.mem_of_getElem? h1)
  have hr := fun w' => reach_c w' x.length o wd hxl
  rw [reach_ok _ _ _ hw ha ho] at hr
  have hlow : ∀ b ∈ x, b < 256 := by rw [← h3]; exact h.low _ (h.mem (List.mem_of_getElem? h1))
  have hat := fun w' (hB : Below W.heap.size W w') => And.intro ((h.below hB).at h1) ((h.below hB).byte h1)
  rw [h3] at hat
  have HAT := hid hat
  have HLOW := hid hlow
  obtain ⟨t, ht⟩ : ∃ t, leN (seg x o wd) = t := ⟨_, rfl⟩
  rw [ht]
  have HT := hid ht
  have HA := hid ha
  have hw8 : wd ≤ 8 ∧ 1 ≤ wd := by omega
  generalize place l id = k at *
  generalize l.length = n at *
  obtain ⟨L, hL⟩ : ∃ L, x.length = L := ⟨_, rfl⟩
  rw [hL] at hxl ho hr
  have HL := hid hL
  generalize e.b = bb at *
  have HK := hid hat
  clear h hx hat h1 h3 hlow ht ha hw HK
  go_enter Try.func18, Try.ntmps18
  go_upto_region 4 with (go_at_call 31; (with_reducible refine hc.mono ?_); rintro e w2 ⟨rfl, b2⟩; clear hc)
  obtain ⟨⟨g, cap, _, hkn, c0, c1, c2⟩, hby⟩ := HAT.out w2 b2
  have k0 : (0 : Int) ≤ k := Int.natCast_nonneg _
  have HBY := hid hby
  rw [HL.out] at c2
  have ww : IntKind.i64.wrap ((wd : Int) - 1) = (wd : Int) - 1 := by rw [IntKind.wrap_i64]; omega
  clear HAT hby
  go_wp2_with (go_at_call 36; (with_reducible refine (hr _).mono ?_); rintro e w3 ⟨rfl, hw3⟩; (have hw' := hw3.symm); subst hw'; clear hw3)
  clear hr c0 c1 c2 hkn k0 ww
  go_loopw [14, 15] (fun xx ii wr => ∃ (j y : Nat), j ≤ wd ∧ ii = .int .i64 ((j : Int) - 1) ∧ xx = .int .u64 (y : Nat) ∧ y = leN (seg x (o + j) (wd - j)) ∧ wr = w2) (fun _ ii _ => (intOf ii + 1).toNat)
  case atStart => exact ⟨wd, 0, Nat.le_refl _, rfl, rfl, by rw [Nat.sub_self]; rfl, rfl⟩
  case round =>
    obtain ⟨j, y, hj, rfl, rfl, hy, rfl⟩ := hrel
    cases j with
    | zero =>
      have e1 : y = t := by rw [hy, ← HT.out]; rfl
      subst e1
      have e2 : (((0 : Nat) : Int) - 1) = -1 := rfl
      rw [e2]
      clear hy e2
      go_wp2
      go_ret2
      exact ⟨rfl, b2⟩
    | succ j =>
      obtain ⟨b, hb⟩ : ∃ b, x[o + j]? = some b := ⟨_, List.getElem?_eq_getElem (by rw [HL.out]; omega)⟩
      have cb := HBY.out (o + j) b hb
      have hb2 := HLOW.out b (List.mem_of_getElem? hb)
      have hyl : y < 256 ^ (seg x (o + (j + 1)) (wd - (j + 1))).length := by rw [hy]; exact leN_lt _ (seg_sub HLOW.out _ _)
      rw [seg_len _ _ _ (by rw [HL.out]; omega)] at hyl
      have hyl2 : y < 256 ^ 7 := Nat.lt_of_lt_of_le hyl (Nat.pow_le_pow_right (by decide) (by omega))
      have hd := seg_down x o j wd b hb (by omega)
      rw [← hy] at hd
      have HD := hid hd
      have e2 : (((j + 1 : Nat) : Int) - 1) = (j : Int) := by omega
      rw [e2]
      have p7 : (256 : Nat) ^ 7 = 72057594037927936 := by decide
      have m1 : IntKind.u64.wrap (256 * (y : Int)) = 256 * (y : Int) := by rw [IntKind.wrap_u64]; omega
      have m2 : IntKind.u64.wrap (b : Int) = (b : Int) := by rw [IntKind.wrap_u64]; omega
      have m3 : IntKind.u64.wrap (256 * (y : Int) + (b : Int)) = ((256 * y + b : Nat) : Int) := by rw [IntKind.wrap_u64]; omega
      have m4 : IntKind.i64.wrap ((o : Int) + (j : Int)) = (o : Int) + (j : Int) := by rw [IntKind.wrap_i64]; omega
      have m5 : IntKind.i64.wrap ((j : Int) - 1) = (j : Int) - 1 := by rw [IntKind.wrap_i64]; omega
      have n1 : (0 : Int) ≤ (o : Int) + (j : Int) := by omega
      have n2 : (o : Int) + (j : Int) < (L : Int) := by omega
      have n3 : (j : Int) ≥ 0 := by omega
      have HM := hid (show ((j : Int) - 1 + 1).toNat < ((j : Int) + 1).toNat by omega)
      have HJ := hid (show j ≤ wd by omega)
      clear hd hyl hyl2 p7 hy hb hb2 e2 hj hxl ho hw8
      go_wp2
      go_roundw
      case rel => exact ⟨j, 256 * y + b, HJ.out, rfl, rfl, HD.out.symm, by trivial⟩
      case measure => exact HM.out
end
end Go.Proofs.Ytmeoonnofiicpaa.W.R5
/- The reference's store: Save. -/
namespace Go.Proofs.Ytmeoonnofiicpaa.W.R5
open Go.ChangeShapes Go.WideShapes Go.RowKit Go.Shelf
set_option linter.unusedVariables false
set_option linter.unusedSimpArgs false
theorem u8s_set (xs : List Nat) (j b : Nat) : u8s (xs.set j b) = (u8s xs).set j (.int .u8 (b : Nat)) := by simp [u8s, List.map_set]
theorem u8s_len (xs : List Nat) : (u8s xs).length = xs.length := by simp [u8s]
theorem refL_mem (A : List (Option (List Nat))) (k : Nat) (p : Nat × List Nat) : p ∈ refL A k ↔ ∃ i, A[i]? = some (some p.2) ∧ p.1 = k + i := by
  induction A generalizing k with
  | nil => simp [refL]
  | cons a A ih =>
    have tl : (∃ i, A[i]? = some (some p.2) ∧ p.1 = (k + 1) + i) ↔ ∃ i, 0 < i ∧ (a :: A)[i]? = some (some p.2) ∧ p.1 = k + i := by
      constructor
      · rintro ⟨i, h1, h2⟩
        exact ⟨i + 1, by omega, h1, by omega⟩
      · rintro ⟨i, h0, h1, h2⟩
        obtain ⟨j, rfl⟩ : ∃ j, i = j + 1 := ⟨i - 1, by omega⟩
        exact ⟨j, h1, by omega⟩
    cases a with
    | none =>
      simp only [refL]
      rw [ih (k + 1), tl]
      constructor
      · rintro ⟨i, _, h⟩; exact ⟨i, h⟩
      · rintro ⟨i, h1, h2⟩
        cases i with
        | zero => simp at h1
        | succ i => exact ⟨i + 1, by omega, h1, h2⟩
    | some x =>
      simp only [refL, List.mem_cons]
      rw [ih (k + 1), tl]
      constructor
      · rintro (rfl | ⟨i, _, h⟩)
        · exact ⟨0, rfl, rfl⟩
        · exact ⟨i, h⟩
      · rintro ⟨i, h1, h2⟩
        cases i with
        | zero => left; simp at h1; cases p; simp_all
        | succ i => exact .inr ⟨i + 1, by omega, h1, h2⟩
section
variable {B0 : Nat} {W : World} {rb M g n cap : Nat} {A : List (Option (List Nat))} {l : List En} {v : Value}
/-- what each Id holds -/
theorem Rs.low' (h : Rs B0 W rb A M l v) {id : Nat} {x : List Nat} (hx : A[id]? = some (some x)) : (∀ b ∈ x, b < 256) ∧ x.length ≤ 8388608 := by
  have hm := (refL_mem A 0 (id, x)).2 ⟨id, hx, by simp⟩
  exact ⟨h.low _ hm, h.len _ hm⟩
theorem nodup_ne {l : List En} (hd : (l.map En.b).Nodup) {k j : Nat} {e f : En} (he : l[k]? = some e) (hf : l[j]? = some f) (hne : k ≠ j) : e.b ≠ f.b := by
  intro c
  have h1 := (List.getElem?_eq_some_iff.1 he).1
  have h2 := (List.getElem?_eq_some_iff.1 hf).1
  refine hne ((List.getElem_inj (i := k) (j := j) (h₀ := by rw [List.length_map]; exact h1) (h₁ := by rw [List.length_map]; exact h2) hd).1 ?_)
  rw [List.getElem_map, List.getElem_map, (List.getElem?_eq_some_iff.1 he).2, (List.getElem?_eq_some_iff.1 hf).2]
  exact c
/-- the bytes of one are written over -/
theorem Rs.wrote {W' : World} (h : Rs B0 W rb A M l v) {id : Nat} {x y : List Nat} (hx : A[id]? = some (some x)) {e : En} (he : l[place l id]? = some e) (hi : e.id = id) (hxs : e.xs = x) (hl : y.length = x.length) (hy : ∀ b ∈ y, b < 256) (hU : Upd (fun k => k = e.b) W W') (hb : W'.heap[e.b]? = some (.cells (u8s y).toArray 5 (0, 0))) : Rs B0 W' rb (A.set id (some y)) M (l.set (place l id) ⟨id, y, e.b⟩) v := by
  have hem := List.mem_of_getElem? he
  have hidl := (List.getElem?_eq_some_iff.1 hx).1
  have hkl := (List.getElem?_eq_some_iff.1 he).1
  have mem : ∀ p ∈ refL (A.set id (some y)) 0, p.2 = y ∨ p ∈ refL A 0 := by
    intro p hp
    obtain ⟨i, h1, h2⟩ := (refL_mem _ _ _).1 hp
    by_cases c : id = i
    · subst c
      rw [List.getElem?_set_self hidl] at h1
      left; cases h1; rfl
    · rw [List.getElem?_set_ne c] at h1
      exact .inr ((refL_mem _ _ _).2 ⟨i, h1, h2⟩)
  have hcells : flatE (l.set (place l id) ⟨id, y, e.b⟩) = flatE l := by
    have : (l.set (place l id) ⟨id, y, e.b⟩).map En.cells = l.map En.cells := by
      rw [List.map_set]
      apply List.ext_getElem?
      intro j
      by_cases c : place l id = j
      · subst c
        rw [List.getElem?_set_self (by rw [List.length_map]; exact hkl), List.getElem?_map, he]
        simp only [Option.map_some, En.cells, hi, hxs, hl]
      · rw [List.getElem?_set_ne c]
    unfold flatE
    rw [List.flatMap_def, List.flatMap_def, this]
  have hbs : (l.set (place l id) ⟨id, y, e.b⟩).map En.b = l.map En.b := by
    rw [List.map_set]
    apply List.ext_getElem?
    intro j
    by_cases c : place l id = j
    · subst c
      rw [List.getElem?_set_self (by rw [List.length_map]; exact hkl), List.getElem?_map, he]; rfl
    · rw [List.getElem?_set_ne c]
  have hall : ∀ f ∈ l.set (place l id) ⟨id, y, e.b⟩, f = ⟨id, y, e.b⟩ ∨ (f ∈ l ∧ f.b ≠ e.b) := by
    intro f hf
    obtain ⟨j, hj⟩ := List.mem_iff_getElem?.1 hf
    by_cases c : place l id = j
    · subst c
      rw [List.getElem?_set_self hkl] at hj
      left; cases hj; rfl
    · rw [List.getElem?_set_ne c] at hj
      exact .inr ⟨List.mem_of_getElem? hj, nodup_ne h.dis hj he (fun e => c e.symm)⟩
  refine ⟨?_, ?_, wrote_is h.is hx he hi, ?_, by rw [hbs]; exact h.dis, ?_, h.own, ⟨h.lo.1, ?_⟩, ?_, by rw [List.length_set]; exact h.num, ?_⟩
  · exact (hU.block rb (h.blk_lt rb (.inl rfl)).2 (fun c => (h.out e hem).1 c.symm)).trans h.top
  · rw [hcells, List.length_set]
    exact owns_on h.row (fun k hk => hU.block k (h.blk_lt k (.inr (.inl hk))).2 (fun c => (h.out e hem).2 (by rw [← c]; exact hk)))
  · intro f hf
    rcases hall f hf with rfl | ⟨hf1, hf2⟩
    · exact hb
    · exact (hU.block f.b (h.blk_lt f.b (.inr (.inr ⟨f, hf1, rfl⟩))).2 hf2).trans (h.byt f hf1)
  · intro f hf
    rcases hall f hf with rfl | ⟨hf1, hf2⟩
    · exact h.out e hem
    · exact h.out f hf1
  · intro f hf
    rcases hall f hf with rfl | ⟨hf1, hf2⟩
    · exact h.lo.2 e hem
    · exact h.lo.2 f hf1
  · intro p hp
    rcases mem p hp with e1 | e1
    · rw [e1]; exact hy
    · exact h.low p e1
  · intro p hp
    rcases mem p hp with e1 | e1
    · rw [e1, hl]; exact (h.low' hx).2
    · exact h.len p e1
theorem rsave_ok (h : Rs B0 W rb A M l v) {id : Nat} {x : List Nat} (hx : A[id]? = some (some x)) (o wd X : Nat) (hX : X < 18446744073709551616) (hw : wd = 1 ∨ wd = 2 ∨ wd = 4 ∨ wd = 8) (ha : o % wd = 0) (ho : o + wd ≤ x.length) : ∃ l', Mine5 rb l' v = Mine5 rb l v ∧ Calls Try.prog 20 #[(Value.pointer (some ⟨rb, 0, none⟩)), .int .i64 id, .int .i64 o, .int .i64 wd, .int .u64 X] W fun e w' => e = .returned (.int .i64 0) ∧ Upd (Mine5 rb l v) W w' ∧ Rs B0 w' rb (A.set id (some (saved x o X wd))) M l' v := by
  obtain ⟨e, h1, h2, h3, hc⟩ := find_some h hx
  have hxl : x.length ≤ 8388608 := by rw [← h3]; exact h.xs_le (List.mem_of_getElem? h1)
  have hr := fun w' => reach_c w' x.length o wd hxl
  rw [reach_ok _ _ _ hw ha ho] at hr
  have hlow : ∀ b ∈ x, b < 256 := (h.low' hx).1
  have hat := fun w' (hB : Below W.heap.size W w') => (h.below hB).at h1
  rw [h3] at hat
  have HAT := hid hat
  have hmine : Mine5 rb (l.set (place l id) ⟨id, saved x o X wd, e.b⟩) v = Mine5 rb l v := by
    funext k
    unfold Mine5
    have hkl := (List.getElem?_eq_some_iff.1 h1).1
    have : (∃ f ∈ l.set (place l id) ⟨id, saved x o X wd, e.b⟩, f.b = k) ↔ ∃ f ∈ l, f.b = k := by
      constructor
      · rintro ⟨f, hf, rfl⟩
        rcases List.mem_or_eq_of_mem_set hf with hf | rfl
        · exact ⟨f, hf, rfl⟩
        · exact ⟨e, List.mem_of_getElem? h1, rfl⟩
      · rintro ⟨f, hf, rfl⟩
        obtain ⟨j, hj⟩ := List.mem_iff_getElem?.1 hf
        by_cases c : place l id = j
        · subst c
          rw [h1] at hj; cases hj
          exact ⟨⟨id, saved x o X wd, e.b⟩, List.mem_of_getElem? (List.getElem?_set_self hkl), rfl⟩
        · exact ⟨f, List.mem_of_getElem? (i := j) (by rw [List.getElem?_set_ne c]; exact hj), rfl⟩
    rw [this]
  refine ⟨_, hmine, ?_⟩
  have FIN : Hid (∀ w' : World, Upd (fun k => k = e.b) W w' → w'.heap[e.b]? = some (.cells (u8s (saved x o X wd)).toArray 5 (0, 0)) → Upd (Mine5 rb l v) W w' ∧ Rs B0 w' rb (A.set id (some (saved x o X wd))) M (l.set (place l id) ⟨id, saved x o X wd, e.b⟩) v) := by
    show ∀ w' : World, _
    intro w' hU hb
    exact ⟨hU.mono (fun k c => .inr (.inr ⟨e, List.mem_of_getElem? h1, c.symm⟩)), h.wrote hx h1 h2 h3 (saved_len ..) (saved_byte _ _ _ _ hlow) hU hb⟩
  have hbl : e.b < W.heap.size := (h.blk_lt e.b (.inr (.inr ⟨e, List.mem_of_getElem? h1, rfl⟩))).2
  have hb0 := h.byt e (List.mem_of_getElem? h1)
  rw [h3] at hb0
  have HB0 := hid hb0
  have hw8 : wd ≤ 8 ∧ 1 ≤ wd := by omega
  generalize l.set (place l id) ⟨id, saved x o X wd, e.b⟩ = l' at *
  generalize place l id = k at *
  generalize l.length = n at *
  obtain ⟨L, hL⟩ : ∃ L, x.length = L := ⟨_, rfl⟩
  rw [hL] at hxl ho hr
  have HL := hid hL
  generalize e.b = bb at *
  clear h hx hat h1 h3 hlow ha hw hb0 hmine
  go_enter Try.func20, Try.ntmps20
  go_upto_region 4 with (go_at_call 31; (with_reducible refine hc.mono ?_); rintro e w2 ⟨rfl, b2⟩; clear hc)
  obtain ⟨g, cap, -, hkn, c0, c1, c2⟩ := HAT.out w2 b2
  have k0 : (0 : Int) ≤ k := Int.natCast_nonneg _
  rw [HL.out] at c2
  clear HAT
  go_wp2_with (go_at_call 36; (with_reducible refine (hr _).mono ?_); rintro e w3 ⟨rfl, hw3⟩; (have hw' := hw3.symm); subst hw'; clear hw3)
  clear hr c0 c1 c2 hkn k0
  go_loopw [4, 15] (fun xx ii wr => ∃ (j y : Nat), j ≤ wd ∧ ii = .int .i64 (j : Nat) ∧ xx = .int .u64 (y : Nat) ∧ y = X / 256 ^ j ∧ Upd (fun k => k = bb) W wr ∧ wr.heap[bb]? = some (.cells (u8s (saved x o X j)).toArray 5 (0, 0))) (fun _ ii _ => wd - (intOf ii).toNat)
  case atStart => exact ⟨0, X, Nat.zero_le _, rfl, rfl, by simp, Upd.of_below b2, (b2.block _ hbl).trans HB0.out⟩
  case round =>
    obtain ⟨j, y, hj, rfl, rfl, hy, hU, hcel⟩ := hrel
    have HU := hid hU
    have HC := hid hcel
    have HY := hid hy
    clear hU hcel
    by_cases hjw : j < wd
    · have hyX : y ≤ X := by rw [hy]; exact Nat.div_le_self _ _
      have hlen : o + j < (u8s (saved x o X j)).length := by rw [u8s_len, saved_len, HL.out]; omega
      have q0 : ∃ q, wr.cell? ⟨bb, o + j, none⟩ = some q := by
        rw [cell_of_row _ _ (o + j) _ _ _ HC.out]
        rw [List.getElem?_toArray, List.getElem?_eq_getElem hlen]
        exact ⟨_, rfl⟩
      obtain ⟨q, hq⟩ := q0
      have z0 : wr.frozen? ⟨bb, o + j, none⟩ = false := by simp [World.frozen?, HC.out]
      have f1 := heap_set HC.out (o + j) (.int .u8 ((y % 256 : Nat) : Int))
      rw [← u8s_set] at f1
      have f2 : (saved x o X j).set (o + j) (y % 256) = saved x o X (j + 1) := by rw [hy]; rfl
      rw [f2] at f1
      have u1 : Upd (fun k => k = bb) W (wr.setCell ⟨bb, o + j, none⟩ (.int .u8 ((y % 256 : Nat) : Int))) := HU.out.setCell (p := ⟨bb, o + j, none⟩) (.inl rfl) _
      have FN := hid (And.intro f1 u1)
      have hdiv : y / 256 = X / 256 ^ (j + 1) := by rw [hy, Nat.div_div_eq_div_mul, Nat.pow_succ]
      have HDV := hid hdiv
      have HJ := hid (show j + 1 ≤ wd from hjw)
      have HM := hid (show wd - ((j : Int) + 1).toNat < wd - ((j : Int)).toNat by omega)
      have m1 : IntKind.i64.wrap ((o : Int) + (j : Int)) = (o : Int) + (j : Int) := by rw [IntKind.wrap_i64]; omega
      have m2 : Int.tmod (y : Int) 256 = ((y % 256 : Nat) : Int) := by rw [Int.tmod_eq_emod_of_nonneg (by omega)]; omega
      have m3 : IntKind.u64.wrap ((y % 256 : Nat) : Int) = ((y % 256 : Nat) : Int) := by rw [IntKind.wrap_u64]; omega
      have m4 : IntKind.u8.wrap ((y % 256 : Nat) : Int) = ((y % 256 : Nat) : Int) := by rw [IntKind.wrap_u8]; omega
      have m5 : Int.tdiv (y : Int) 256 = ((y / 256 : Nat) : Int) := by rw [Int.tdiv_eq_ediv_of_nonneg (by omega)]; omega
      have m6 : IntKind.u64.wrap ((y / 256 : Nat) : Int) = ((y / 256 : Nat) : Int) := by rw [IntKind.wrap_u64]; omega
      have m7 : IntKind.i64.wrap ((j : Int) + 1) = (j : Int) + 1 := by rw [IntKind.wrap_i64]; omega
      have n1 : (0 : Int) ≤ (o : Int) + (j : Int) := by omega
      have n2 : (o : Int) + (j : Int) < (L : Int) := by omega
      have n3 : (j : Int) < (wd : Int) := by omega
      clear f1 f2 u1 hdiv hyX hy hj hjw hxl ho hw8 hX hlen
      generalize y % 256 = ym at *
      generalize y / 256 = yd at *
      go_wp2
      go_roundw
      case rel => exact ⟨j + 1, yd, HJ.out, rfl, rfl, HDV.out, FN.out.2, FN.out.1⟩
      case measure => exact HM.out
    · have e1 : j = wd := by omega
      subst e1
      have n3 : ¬ (j : Int) < (j : Int) := by omega
      have F := hid (FIN.out wr HU.out HC.out)
      clear hy hj hjw hxl ho hw8 FIN
      go_wp2
      go_ret
      exact ⟨rfl, F.out⟩
end
end Go.Proofs.Ytmeoonnofiicpaa.W.R5
/- The reference's store: Give. -/
namespace Go.Proofs.Ytmeoonnofiicpaa.W.R5
open Go.ChangeShapes Go.WideShapes Go.RowKit Go.Shelf
set_option linter.unusedVariables false
set_option linter.unusedSimpArgs false
theorem infoE : (Try.prog.info? 63).map (fun i => (i.zero, i.size, i.bytes)) = some (some (.agg #[.int .i64 0, .slice none 0 0]), 2, 32) := by kernel_rfl
theorem underE : Try.prog.underlying 27 = some (.slice 63) := by kernel_rfl
theorem flatE_one (l : List En) : ∀ u ∈ flatE l, u.oneCell' = true := by
  intro u hu
  unfold flatE at hu
  obtain ⟨e, _, he⟩ := List.mem_flatMap.1 hu
  simp [En.cells] at he
  rcases he with rfl | rfl <;> rfl
/-- a part of a row behind a row of one's own -/
theorem app_part (W : World) (B : Nat) (ty : TypeId) (vd : Value) (a : List En) (ho : W.ownsRow B 63 2 vd a.length (flatE a)) (hB : B ≤ W.heap.size) (x : Value) (b : List En) (hsrc : (b = [] ∧ ∃ o c, x = .slice o 0 c) ∨ (∃ ad c, x = .slice (some ad) b.length c ∧ ∀ j u, (flatE b)[j]? = some u → W.cell? (ad.add j) = some u)) (hl : a.length + b.length ≤ 5000) :
    ∃ v' w', (Builtin.append_ #[27, 27] ty #[vd, x]).run Try.prog W = .ok v' w' ∧ w'.ownsRow B 63 2 v' (a ++ b).length (flatE (a ++ b)) ∧ Upd (fun k => vd.ownBlock = some k) W w' ∧ ∀ k, v'.ownBlock = some k → vd.ownBlock = some k ∨ (W.heap.size ≤ k ∧ k < w'.heap.size) := by
  obtain ⟨i0, hi, hz0, hz1, hz2⟩ := info_parts infoE
  have none_case : ∀ o c, b = [] → x = .slice o 0 c → ∃ v' w', (Builtin.append_ #[27, 27] ty #[vd, x]).run Try.prog W = .ok v' w' ∧ w'.ownsRow B 63 2 v' (a ++ b).length (flatE (a ++ b)) ∧ Upd (fun k => vd.ownBlock = some k) W w' ∧ ∀ k, v'.ownBlock = some k → vd.ownBlock = some k ∨ (W.heap.size ≤ k ∧ k < w'.heap.size) := by
    rintro o c rfl rfl
    have hs : Src Try.prog i0.size 27 (.slice o 0 c) 0 [] W := by
      cases o with
      | none => exact Src.ofNil W underE c
      | some ad => exact Src.ofSlice W underE ad 0 c [] (by simp) (fun j u h => by simp at h) (fun u h => by cases h)
    obtain ⟨o2, cap, rfl⟩ := slice_of (owns_base ho (b' := 0) (fun _ _ => Nat.zero_le _))
    have hle : a.length ≤ cap := by
      rcases Nat.eq_zero_or_pos a.length with h0 | h0
      · omega
      · obtain ⟨g, cap', hv, h3⟩ := own_slice (owns_base ho (b' := 0) (fun _ _ => Nat.zero_le _)) h0
        injection hv with _ _ hc
        omega
    refine ⟨_, W, run_append_nothing W 27 27 ty 63 i0 underE hi o2 a.length cap hle _ hs, by rw [List.append_nil]; exact ho, Upd.refl _ _, fun k e => .inl e⟩
  rcases hsrc with ⟨hb, o, c, hx⟩ | ⟨ad, c, hx, hcells⟩
  · exact none_case o c hb hx
  · rcases Nat.eq_zero_or_pos b.length with h0 | h0
    · have hb : b = [] := List.length_eq_zero_iff.1 h0
      exact none_case (some ad) c hb (by rw [hx, h0])
    · subst hx
      obtain ⟨v', w', hrun, ho', hg, hk⟩ := append_at (P := Try.prog) W 27 ty 63 i0 _ 2 32 underE hi hz0 hz1 hz2 (by rfl) (by omega) vd a.length (flatE a) (owns_base ho (b' := 0) (fun _ _ => Nat.zero_le _)) ad b.length c (flatE b) (flatE_len b) hcells (flatE_one b) h0 (by omega) (by omega)
      refine ⟨v', w', hrun, ?_, (Upd.refl _ _).grown hg (fun k e => .inl e), hk⟩
      rw [List.length_append, flatE_app]
      refine owns_base ho' (fun g e => ?_)
      rcases hk g e with h | h
      · exact (ho.lt g h).1
      · omega
theorem row_part {W : World} {B g n cap : Nat} {l : List En} (ho : W.ownsRow B 63 2 (.slice (some ⟨g, 0, none⟩) n cap) l.length (flatE l)) (k m : Nat) (hkm : k + m ≤ l.length) : ∀ j u, (flatE ((l.drop k).take m))[j]? = some u → W.cell? ((⟨g, k * 2, none⟩ : Addr).add j) = some u := by
  intro j u hu
  rw [← flatE_take _ _ (by rw [List.length_drop]; omega), ← flatE_drop _ _ (by omega)] at hu
  have hj : j < m * 2 := by
    rcases Nat.lt_or_ge j (m * 2) with h | h
    · exact h
    · rw [List.getElem?_take_eq_none h] at hu; cases hu
  rw [List.getElem?_take_of_lt hj, List.getElem?_drop] at hu
  have := ho.cells (g := g) rfl (k * 2 + j) u hu
  have e1 : ((⟨g, k * 2, none⟩ : Addr).add j) = (⟨g, 0, none⟩ : Addr).add (k * 2 + j) := by unfold Addr.add; split <;> split <;> simp_all
  rw [e1]
  exact this
/-- the reference's store, and the blocks R that are its -/
def Rf (B0 : Nat) (W : World) (R : Nat → Prop) (rb : Nat) (A : List (Option (List Nat))) (M : Nat) : Prop := ∃ l v, Rs B0 W rb A M l v ∧ ∀ k, Mine5 rb l v k → R k
section
variable {B0 : Nat} {W : World} {rb M g n cap : Nat} {A : List (Option (List Nat))} {l : List En} {v : Value}
set_option maxRecDepth 100000 in
theorem rgive_ok (h : Rs B0 W rb A M l v) {id : Nat} {x : List Nat} (hx : A[id]? = some (some x)) : Calls Try.prog 14 #[(Value.pointer (some ⟨rb, 0, none⟩)), .int .i64 id] W fun e w' => e = .returned (.int .i64 0) ∧ Upd (fun k => k = rb) W w' ∧ ∃ l' v', Rs B0 w' rb (A.set id none) M l' v' ∧ ∀ k, Mine5 rb l' v' k → Mine5 rb l v k ∨ (W.heap.size ≤ k ∧ k < w'.heap.size) := by
  obtain ⟨e, h1, h2, h3, hc⟩ := find_some h hx
  have hkl := (List.getElem?_eq_some_iff.1 h1).1
  have hgv := given_is h.is hx
  have hidl := (List.getElem?_eq_some_iff.1 hx).1
  obtain ⟨g, cap, hv, hcap⟩ := own_slice (owns_base h.row (b' := 0) (fun _ _ => Nat.zero_le _)) (Nat.lt_of_le_of_lt (Nat.zero_le _) hkl)
  have hl1000 := h.lt
  subst hv
  obtain ⟨k, hk⟩ : ∃ k, place l id = k := ⟨_, rfl⟩
  rw [hk] at hc hkl hgv
  have H := hid h
  have HX := hid hx
  have HGV := hid hgv
  obtain ⟨n, hn⟩ : ∃ n, l.length = n := ⟨_, rfl⟩
  rw [hn] at hkl hcap hl1000
  have HN := hid hn
  clear h hx hgv h1 h2 h3 hn hk
  go_enter Try.func14, Try.ntmps14
  go_upto_region 4 with (go_at_call 31; (with_reducible refine hc.mono ?_); rintro e w2 ⟨rfl, b2⟩; clear hc)
  have r2 := H.out.below b2
  have c2 : w2.cell? ⟨rb, 0, none⟩ = some (.slice (some ⟨g, 0, none⟩) n cap) := by rw [← HN.out]; exact cell_of_row _ _ 0 _ _ _ r2.top
  have bA : Below w2.heap.size w2 (w2.alloc (.cells #[] 63)) := (Below.refl _ _).alloc (Nat.le_refl _) _
  have r3 := r2.below bA
  have c3 : (w2.alloc (.cells #[] 63)).cell? ⟨rb, 0, none⟩ = some (.slice (some ⟨g, 0, none⟩) n cap) := by rw [← HN.out]; exact cell_of_row _ _ 0 _ _ _ r3.top
  have o3 : (w2.alloc (.cells #[] 63)).ownsRow w2.heap.size 63 2 (.slice (some ⟨w2.heap.size, 0, none⟩) 0 0) (([] : List En)).length (flatE []) := World.ownsRow_lit w2 #[] 0 (Nat.le_refl _) (by simp) (by simp)
  obtain ⟨v4, w4, run4, o4, u4, k4⟩ := app_part (w2.alloc (.cells #[] 63)) w2.heap.size 27 _ [] o3 bA.size (.slice (some ⟨g, 0, none⟩) k cap) (l.take k) (.inr ⟨⟨g, 0, none⟩, cap, by rw [List.length_take, HN.out, Nat.min_eq_left (by omega)], fun j u hu => by
    have := row_part r3.row 0 k (by rw [HN.out]; omega) j u (by simpa using hu)
    simpa using this⟩) (by simp; omega)
  have U4 : Upd (fun _ => False) w2 w4 := upd_more' (Upd.of_below bA) u4 (fun x e => by cases e; exact Nat.le_refl _)
  have r4 := r2.on (W' := w4) (fun x hx => U4.block x (r2.blk_lt x hx).2 (fun e => e))
  have c4 : w4.cell? ⟨rb, 0, none⟩ = some (.slice (some ⟨g, 0, none⟩) n cap) := by rw [← HN.out]; exact cell_of_row _ _ 0 _ _ _ r4.top
  rw [List.nil_append] at o4
  have hz4 : w2.heap.size ≤ w4.heap.size := U4.size
  obtain ⟨x5, hx5, src5⟩ : ∃ x5 : Value, ((cap = k + 1 ∧ x5 = .slice (some ⟨g, 0, none⟩) (n - (k + 1)) 0) ∨ (¬ cap = k + 1 ∧ x5 = .slice (some ⟨g, (k + 1) * 2, none⟩) (n - (k + 1)) (cap - (k + 1)))) ∧ ((l.drop (k + 1) = [] ∧ ∃ (o : Option Addr) (c : Nat), x5 = .slice o 0 c) ∨ (∃ (ad : Addr) (c : Nat), x5 = .slice (some ad) (l.drop (k + 1)).length c ∧ ∀ j u, (flatE (l.drop (k + 1)))[j]? = some u → w4.cell? (ad.add j) = some u)) := by
    by_cases hcp : cap = k + 1
    · exact ⟨_, .inl ⟨hcp, rfl⟩, .inl ⟨List.drop_of_length_le (by rw [HN.out]; omega), _, _, by rw [show n - (k + 1) = 0 by omega]⟩⟩
    · refine ⟨_, .inr ⟨hcp, rfl⟩, .inr ⟨⟨g, (k + 1) * 2, none⟩, cap - (k + 1), by rw [List.length_drop, HN.out], fun j u hu => ?_⟩⟩
      refine row_part r4.row (k + 1) (n - (k + 1)) (by rw [HN.out]; omega) j u ?_
      rw [List.take_of_length_le (by rw [List.length_drop, HN.out]; omega)]
      exact hu
  obtain ⟨v5, w5, run5, o5, u5, k5⟩ := app_part w4 w2.heap.size 27 v4 (l.take k) o4 hz4 x5 (l.drop (k + 1)) src5 (by rw [List.length_take, List.length_drop, HN.out]; omega)
  clear src5
  obtain ⟨oo, cc, hv5⟩ := slice_of (owns_base o5 (b' := 0) (fun _ _ => Nat.zero_le _))
  generalize (l.take k ++ l.drop (k + 1)).length = nn at hv5
  subst hv5
  have U5 : Upd (fun _ => False) w2 w5 := upd_more' U4 u5 (fun x e => (o4.lt x e).1)
  have r5 := r2.on (W' := w5) (fun x hx => U5.block x (r2.blk_lt x hx).2 (fun e => e))
  have c5 : w5.cell? ⟨rb, 0, none⟩ = some (.slice (some ⟨g, 0, none⟩) n cap) := by rw [← HN.out]; exact cell_of_row _ _ 0 _ _ _ r5.top
  have z5 : w5.frozen? ⟨rb, 0, none⟩ = false := by simp [World.frozen?, r5.top]
  have FIN : Hid (Upd (fun k => k = rb) W (w5.setCell ⟨rb, 0, none⟩ (.slice oo nn cc)) ∧ ∃ l' v', Rs B0 (w5.setCell ⟨rb, 0, none⟩ (.slice oo nn cc)) rb (A.set id none) M l' v' ∧ ∀ k, Mine5 rb l' v' k → Mine5 rb l (.slice (some ⟨g, 0, none⟩) l.length cap) k ∨ (W.heap.size ≤ k ∧ k < (w5.setCell ⟨rb, 0, none⟩ (.slice oo nn cc)).heap.size)) := by
    show _ ∧ _
    have uS : Upd (fun k => k = rb) w5 (w5.setCell ⟨rb, 0, none⟩ (.slice oo nn cc)) := (Upd.refl (fun k => k = rb) w5).setCell (p := ⟨rb, 0, none⟩) (.inl rfl) _
    have uA : Upd (fun k => k = rb) W (w5.setCell ⟨rb, 0, none⟩ (.slice oo nn cc)) := ((Upd.of_below b2).trans' (U5.mono (fun k e => e.elim))).trans' uS
    have hb2 := b2.size
    have hrb := (H.out.blk_lt rb (.inl rfl)).2
    have hsz : (w5.setCell ⟨rb, 0, none⟩ (.slice oo nn cc)).heap.size = w5.heap.size := by simp [World.setCell]
    have hv5 : ∀ x, (Value.slice oo nn cc).ownBlock = some x → w2.heap.size ≤ x ∧ x < w5.heap.size := fun x e => o5.lt x e
    have hne : ∀ x, (Value.slice oo nn cc).ownBlock = some x → x ≠ rb := fun x e => by have := (hv5 x e).1; omega
    have hsub : ∀ f ∈ l.take k ++ l.drop (k + 1), f ∈ l := by
      intro f hf
      rcases List.mem_append.1 hf with hf | hf
      · exact List.mem_of_mem_take hf
      · exact List.mem_of_mem_drop hf
    have mem : ∀ p ∈ refL (A.set id none) 0, p ∈ refL A 0 := by
      intro p hp
      obtain ⟨i, e1, e2⟩ := (refL_mem _ _ _).1 hp
      by_cases c : id = i
      · subst c
        rw [List.getElem?_set_self hidl] at e1
        cases e1
      · rw [List.getElem?_set_ne c] at e1
        exact (refL_mem _ _ _).2 ⟨i, e1, e2⟩
    refine ⟨uA, l.take k ++ l.drop (k + 1), .slice oo nn cc, ⟨?_, owns_base (owns_on o5 (fun x e => uS.block x (hv5 x e).2 (hne x e))) (fun x e => ?_), HGV.out, ?_, ?_, ?_, ?_, ⟨H.out.lo.1, fun f hf => H.out.lo.2 f (hsub f hf)⟩, fun p hp => H.out.low p (mem p hp), by rw [List.length_set]; exact H.out.num, fun p hp => H.out.len p (mem p hp)⟩, ?_⟩
    · exact heap_set (c := [_, _]) r5.top 0 _
    · have := (hv5 x e).1
      have := H.out.lo.1
      omega
    · intro f hf
      exact (uS.block f.b (r5.blk_lt f.b (.inr (.inr ⟨f, hsub f hf, rfl⟩))).2 (H.out.out f (hsub f hf)).1).trans (r5.byt f (hsub f hf))
    · refine List.Nodup.sublist (List.Sublist.map _ ?_) H.out.dis
      rw [← List.eraseIdx_eq_take_drop_succ]
      exact List.eraseIdx_sublist ..
    · intro f hf
      refine ⟨(H.out.out f (hsub f hf)).1, fun e => ?_⟩
      have h6 := (hv5 _ e).1
      have h7 := (H.out.blk_lt f.b (.inr (.inr ⟨f, hsub f hf, rfl⟩))).2
      omega
    · intro e
      exact hne _ e rfl
    · intro x hx
      rcases hx with rfl | hx | ⟨f, hf, rfl⟩
      · exact .inl (.inl rfl)
      · have := hv5 x hx
        right; omega
      · exact .inl (.inr (.inr ⟨f, hsub f hf, rfl⟩))
  rw [HN.out] at FIN
  have k0 : (0 : Int) ≤ k := Int.natCast_nonneg _
  have k1 : (k : Int) ≤ cap := by omega
  have k2 : (k : Int) + 1 ≤ n := by omega
  have wk : IntKind.i64.wrap ((k : Int) + 1) = (k : Int) + 1 := by rw [IntKind.wrap_i64]; omega
  clear r2 r3 r4 r5 o3 o4 o5 u4 u5 k4 k5 U4 U5 bA b2 H HX HGV hcap hkl hl1000
  rcases hx5 with ⟨hcp, rfl⟩ | ⟨hcp, rfl⟩
  · subst hcp
    go_wp2_with (first | (at_builtin; refine Lib.wpList_append_run _ rfl (.tmp 16) (.tmp 22) 27 27 rfl _ _ (by simp [Act.eval]) (by simp [Act.eval]) _ _ run4 ?_) | (at_builtin; refine Lib.wpList_append_run _ rfl (.tmp 25) (.tmp 32) 27 27 rfl _ _ (by simp [Act.eval]) (by simp [Act.eval]) _ _ run5 ?_))
    go_ret
    exact ⟨rfl, FIN.out⟩
  · go_wp2_with (first | (at_builtin; refine Lib.wpList_append_run _ rfl (.tmp 16) (.tmp 22) 27 27 rfl _ _ (by simp [Act.eval]) (by simp [Act.eval]) _ _ run4 ?_) | (at_builtin; refine Lib.wpList_append_run _ rfl (.tmp 25) (.tmp 32) 27 27 rfl _ _ (by simp [Act.eval]) (by simp [Act.eval]) _ _ run5 ?_))
    go_ret
    exact ⟨rfl, FIN.out⟩
theorem rgive_none (h : Rs B0 W rb A M l v) {id : Int} (hx : id < 0 ∨ (A[id.toNat]?).getD none = none) : Calls Try.prog 14 #[(Value.pointer (some ⟨rb, 0, none⟩)), .int .i64 id] W fun e w' => e = .returned (.int .i64 30) ∧ Below W.heap.size W w' := by
  have hc := find_none h hx
  clear h hx
  go_enter Try.func14, Try.ntmps14
  go_wp2_with (go_at_call 31; (with_reducible refine hc.mono ?_); rintro e w2 ⟨rfl, b2⟩; clear hc)
  go_ret
  exact ⟨rfl, b2⟩
end
end Go.Proofs.Ytmeoonnofiicpaa.W.R5
/- The reference's store: Take. -/
namespace Go.Proofs.Ytmeoonnofiicpaa.W.R5
open Go.ChangeShapes Go.WideShapes Go.RowKit Go.Shelf
set_option linter.unusedVariables false
set_option linter.unusedSimpArgs false
theorem info8 : (Try.prog.info? 5).map (fun i => (i.zero, i.size, i.bytes)) = some (some (.int .u8 0), 1, 1) := by kernel_rfl
theorem under8 : Try.prog.underlying 41 = some (.slice 5) := by kernel_rfl
theorem make_b (w : World) (n : Nat) (hn : n ≤ 8388608) : ∃ w', (Instr.makeSlice 41 (.int .i64 (n : Int)) (.int .i64 (n : Int))).run Try.prog w = .ok (.slice (some ⟨w.heap.size, 0, none⟩) n n) w' ∧ w'.heap[w.heap.size]? = some (.cells (u8s (List.replicate n 0)).toArray 5 (0, 0)) ∧ Below w.heap.size w w' := by
  obtain ⟨i0, hi, hz0, hz1, hz2⟩ := info_parts info8
  obtain ⟨w', h1, h2, h3⟩ := run_makeSlice_full (P := Try.prog) w w.heap.size 41 5 i0 (.int .u8 0) 1 under8 hi hz0 hz1 .i64 .i64 n (by omega) (by rw [hz2]; omega) (by simp [maxLen]; omega) (Nat.le_refl _)
  have hU : Upd (fun _ => False) w w' := (Upd.refl (fun _ => False) w).grown h3 (fun k e => by cases e)
  refine ⟨w', h1, ?_, hU.below (Nat.le_refl _) (fun k e => e.elim)⟩
  obtain ⟨hlen, hrow⟩ := h2
  have hm : (madeCells (Value.int .u8 0).cells (n * 1)).toList = u8s (List.replicate n 0) := by
    rw [Nat.mul_one]
    show (madeCells #[Value.int .u8 0] n).toList = _
    rw [toList_madeCells_one]
    simp [u8s]
  rcases hrow with ⟨hv, _⟩ | ⟨g, cap, cur, hv, _, hg, _, _, hcs, ht⟩
  · cases hv
  · injection hv with hv1 hv2 hv3
    cases hv1
    subst hv3
    rw [hg]
    rw [List.take_of_length_le (by simp [hcs])] at ht
    rw [hm] at ht
    have : cur = (u8s (List.replicate n 0)).toArray := by rw [← ht]
    rw [this]
section
variable {B0 : Nat} {W : World} {rb M g n cap : Nat} {A : List (Option (List Nat))} {l : List En} {v : Value}
theorem putA_len (A : List (Option (List Nat))) (x : Option (List Nat)) : (putA A (leastA A) x).length ≤ A.length + 1 := by
  unfold putA
  split
  · rw [List.length_set]; omega
  · simp
/-- what Take does behind find -/
theorem take_plan {w2 : World} {o : Option Addr} (h : Rs B0 w2 rb A M l (.slice o n cap)) (hn : l.length = n) (m : Nat) (hm : m ≤ 8388608) (hnum : A.length < 1000) (x4 x7 : Value)
    (s4 : ∀ w, Rs B0 w rb A M l (.slice o n cap) → (l.take (leastA A) = [] ∧ ∃ (o : Option Addr) (c : Nat), x4 = .slice o 0 c) ∨ (∃ (ad : Addr) (c : Nat), x4 = .slice (some ad) (l.take (leastA A)).length c ∧ ∀ j u, (flatE (l.take (leastA A)))[j]? = some u → w.cell? (ad.add j) = some u))
    (s7 : ∀ w, Rs B0 w rb A M l (.slice o n cap) → (l.drop (leastA A) = [] ∧ ∃ (o : Option Addr) (c : Nat), x7 = .slice o 0 c) ∨ (∃ (ad : Addr) (c : Nat), x7 = .slice (some ad) (l.drop (leastA A)).length c ∧ ∀ j u, (flatE (l.drop (leastA A)))[j]? = some u → w.cell? (ad.add j) = some u)) :
    ∃ v4 w4 w5 v6 w6 oo nn cc w7, (Builtin.append_ #[27, 27] 27 #[.slice (some ⟨w2.heap.size, 0, none⟩) 0 0, x4]).run Try.prog (w2.alloc (.cells #[] 63)) = .ok v4 w4 ∧ (Instr.makeSlice 41 (.int .i64 (m : Int)) (.int .i64 (m : Int))).run Try.prog w4 = .ok (.slice (some ⟨w4.heap.size, 0, none⟩) m m) w5 ∧ (Builtin.append_ #[27, 27] 27 #[v4, .slice (some ⟨w5.heap.size, 0, none⟩) 1 1]).run Try.prog (w5.alloc (.cells #[.int .i64 (leastA A : Nat), .slice (some ⟨w4.heap.size, 0, none⟩) m m] 63)) = .ok v6 w6 ∧ (Builtin.append_ #[27, 27] 27 #[v6, x7]).run Try.prog w6 = .ok (.slice oo nn cc) w7 ∧
      w6.cell? ⟨rb, 0, none⟩ = some (.slice o n cap) ∧ w7.cell? ⟨rb, 0, none⟩ = some (.slice o n cap) ∧ w7.frozen? ⟨rb, 0, none⟩ = false ∧ Upd (fun k => k = rb) w2 (w7.setCell ⟨rb, 0, none⟩ (.slice oo nn cc)) ∧ ∃ l', Rs B0 (w7.setCell ⟨rb, 0, none⟩ (.slice oo nn cc)) rb (putA A (leastA A) (some (List.replicate m 0))) M l' (.slice oo nn cc) ∧ ∀ k, Mine5 rb l' (.slice oo nn cc) k → Mine5 rb l (.slice o n cap) k ∨ (w2.heap.size ≤ k ∧ k < w7.heap.size) := by
  have hl1000 := h.lt
  obtain ⟨lp1, lp2, lp3, lp4⟩ := least_place h.is
  have htk := fun b => taken_is (l := l) h.is (List.replicate m 0) b
  have bA : Below w2.heap.size w2 (w2.alloc (.cells #[] 63)) := (Below.refl _ _).alloc (Nat.le_refl _) _
  have r3 := h.below bA
  have o3 : (w2.alloc (.cells #[] 63)).ownsRow w2.heap.size 63 2 (.slice (some ⟨w2.heap.size, 0, none⟩) 0 0) (([] : List En)).length (flatE []) := World.ownsRow_lit w2 #[] 0 (Nat.le_refl _) (by simp) (by simp)
  obtain ⟨v4, w4, run4, o4, u4, k4⟩ := app_part (w2.alloc (.cells #[] 63)) w2.heap.size 27 _ [] o3 bA.size x4 (l.take (leastA A)) (s4 _ r3) (by simp; omega)
  rw [List.nil_append] at o4
  have U4 : Upd (fun _ => False) w2 w4 := upd_more' (Upd.of_below bA) u4 (fun x e => by cases e; exact Nat.le_refl _)
  obtain ⟨w5, hmk, hb5, b5⟩ := make_b w4 m hm
  have z4 := U4.size
  have z5 := b5.size
  have o5 := owns_on o4 (fun x e => b5.block x (o4.lt x e).2)
  obtain ⟨ne, hne⟩ : ∃ ne : En, ne = ⟨leastA A, List.replicate m 0, w4.heap.size⟩ := ⟨_, rfl⟩
  have hnc : flatE [ne] = [.int .i64 (leastA A : Nat), .slice (some ⟨w4.heap.size, 0, none⟩) m m] := by rw [hne]; simp [flatE, En.cells]
  have bB : Below w5.heap.size w5 (w5.alloc (.cells #[.int .i64 (leastA A : Nat), .slice (some ⟨w4.heap.size, 0, none⟩) m m] 63)) := (Below.refl _ _).alloc (Nat.le_refl _) _
  have o5' := owns_on o5 (fun x e => bB.block x (o5.lt x e).2)
  obtain ⟨v6, w6, run6, o6, u6, k6⟩ := app_part (w5.alloc (.cells #[.int .i64 (leastA A : Nat), .slice (some ⟨w4.heap.size, 0, none⟩) m m] 63)) w2.heap.size 27 v4 (l.take (leastA A)) o5' (by have := bB.size; omega) (.slice (some ⟨w5.heap.size, 0, none⟩) 1 1) [ne] (.inr ⟨_, _, rfl, fun j u hu => by
    have e0 := World.cell?_alloc_new w5 #[.int .i64 (leastA A : Nat), .slice (some ⟨w4.heap.size, 0, none⟩) m m] 63 j
    have e1 : ((⟨w5.heap.size, 0, none⟩ : Addr).add j) = ⟨w5.heap.size, j, none⟩ := by unfold Addr.add; split <;> simp_all
    rw [e1, e0]
    rw [hnc] at hu
    simpa using hu⟩) (by rw [List.length_take]; simp; omega)
  have U5 : Upd (fun _ => False) w2 w5 := upd_more' (S2 := fun _ => False) U4 (Upd.of_below b5) (fun x e => e.elim)
  have U5' : Upd (fun _ => False) w2 _ := upd_more' (S2 := fun _ => False) U5 (Upd.of_below bB) (fun x e => e.elim)
  have U6 : Upd (fun _ => False) w2 w6 := upd_more' U5' u6 (fun x e => (o4.lt x e).1)
  have r6 := h.on (W' := w6) (fun x hx => U6.block x (h.blk_lt x hx).2 (fun e => e))
  obtain ⟨v7, w7, run7, o7, u7, k7⟩ := app_part w6 w2.heap.size 27 v6 (l.take (leastA A) ++ [ne]) o6 (by have := U6.size; omega) x7 (l.drop (leastA A)) (s7 w6 r6) (by rw [List.length_append, List.length_take, List.length_drop]; simp; omega)
  have U7 : Upd (fun _ => False) w2 w7 := upd_more' U6 u7 (fun x e => (o6.lt x e).1)
  have r7 := h.on (W' := w7) (fun x hx => U7.block x (h.blk_lt x hx).2 (fun e => e))
  have z6' := bB.size
  have z6 := u6.size
  have z7 := u7.size
  have hnb : w7.heap[w4.heap.size]? = some (.cells (u8s (List.replicate m 0)).toArray 5 (0, 0)) := by
    have hlt : w4.heap.size < w5.heap.size := (Array.getElem?_eq_some_iff.1 hb5).1
    have h1 := (bB.block w4.heap.size hlt).trans hb5
    have h2 := (u6.block w4.heap.size (by omega) (fun e => by have := (o4.lt _ e).2; omega)).trans h1
    refine (u7.block w4.heap.size (by omega) (fun e => ?_)).trans h2
    rcases k6 _ e with e2 | e2
    · have := (o4.lt _ e2).2; omega
    · omega
  obtain ⟨oo, cc, hv7⟩ := slice_of (owns_base o7 (b' := 0) (fun _ _ => Nat.zero_le _))
  generalize hnn : (l.take (leastA A) ++ [ne] ++ l.drop (leastA A)).length = nn at hv7
  subst hv7
  have hv7 : ∀ x, (Value.slice oo nn cc).ownBlock = some x → w2.heap.size ≤ x ∧ x < w7.heap.size ∧ x ≠ w4.heap.size := by
    intro x e
    refine ⟨(o7.lt x e).1, (o7.lt x e).2, ?_⟩
    rintro rfl
    rcases k7 _ e with e2 | e2
    · rcases k6 _ e2 with e3 | e3
      · have := (o4.lt _ e3).2; omega
      · have : w4.heap.size < w5.heap.size := (Array.getElem?_eq_some_iff.1 hb5).1
        omega
    · have : w4.heap.size < w5.heap.size := (Array.getElem?_eq_some_iff.1 hb5).1
      omega
  have hrb := (h.blk_lt rb (.inl rfl)).2
  have uS : Upd (fun k => k = rb) w7 (w7.setCell ⟨rb, 0, none⟩ (.slice oo nn cc)) := (Upd.refl (fun k => k = rb) w7).setCell (p := ⟨rb, 0, none⟩) (.inl rfl) _
  refine ⟨v4, w4, w5, v6, w6, oo, nn, cc, w7, run4, hmk, run6, run7, cell_of_row _ _ 0 _ _ _ r6.top, cell_of_row _ _ 0 _ _ _ r7.top, by simp [World.frozen?, r7.top], (U7.mono (fun k e => e.elim)).trans' uS, l.take (leastA A) ++ [ne] ++ l.drop (leastA A), ?_, ?_⟩
  · have hsub : ∀ f ∈ l.take (leastA A) ++ [ne] ++ l.drop (leastA A), f ∈ l ∨ f = ne := by
      intro f hf
      rcases List.mem_append.1 hf with hf | hf
      · rcases List.mem_append.1 hf with hf | hf
        · exact .inl (List.mem_of_mem_take hf)
        · exact .inr (List.mem_singleton.1 hf)
      · exact .inl (List.mem_of_mem_drop hf)
    have mem : ∀ p ∈ refL (putA A (leastA A) (some (List.replicate m 0))) 0, p ∈ refL A 0 ∨ p.2 = List.replicate m 0 := by
      intro p hp
      obtain ⟨i, e1, e2⟩ := (refL_mem _ _ _).1 hp
      by_cases c : i = leastA A
      · subst c
        rw [putA_self] at e1
        right; injection e1 with e1; injection e1 with e1; exact e1.symm
      · rw [putA_ne _ _ _ c] at e1
        exact .inl ((refL_mem _ _ _).2 ⟨i, e1, e2⟩)
    have neb : ne.b = w4.heap.size := by rw [hne]
    have nex : ne.xs = List.replicate m 0 := by rw [hne]
    refine ⟨?_, owns_base (owns_on o7 (fun x e => uS.block x (hv7 x e).2.1 (by have := (hv7 x e).1; omega))) (fun x e => ?_), by rw [hne]; exact htk _, ?_, ?_, ?_, ?_, ⟨h.lo.1, ?_⟩, ?_, by have := putA_len A (some (List.replicate m 0)); omega, ?_⟩
    · exact heap_set (c := [_, _]) r7.top 0 _
    · have := (hv7 x e).1
      have := h.lo.1
      omega
    · intro f hf
      rcases hsub f hf with hf | hf
      · exact (uS.block f.b (r7.blk_lt f.b (.inr (.inr ⟨f, hf, rfl⟩))).2 (h.out f hf).1).trans (r7.byt f hf)
      · subst hf
        rw [neb, nex]
        exact (uS.block w4.heap.size (Array.getElem?_eq_some_iff.1 hnb).1 (by omega)).trans hnb
    · have hperm : (l.take (leastA A) ++ [ne] ++ l.drop (leastA A)).Perm (ne :: l) := by
        have p1 : (l.take (leastA A) ++ [ne] ++ l.drop (leastA A)).Perm (([ne] ++ l.take (leastA A)) ++ l.drop (leastA A)) := List.Perm.append_right _ List.perm_append_comm
        refine p1.trans ?_
        rw [List.append_assoc, List.take_append_drop]
        exact List.Perm.refl _
      refine ((hperm.map En.b).nodup_iff).2 ?_
      rw [List.map_cons, List.nodup_cons]
      refine ⟨?_, h.dis⟩
      intro hin
      obtain ⟨f, hf, e⟩ := List.mem_map.1 hin
      have := (h.blk_lt f.b (.inr (.inr ⟨f, hf, rfl⟩))).2
      rw [e, neb] at this
      omega
    · intro f hf
      rcases hsub f hf with hf | hf
      · refine ⟨(h.out f hf).1, fun e => ?_⟩
        have h6 := (hv7 _ e).1
        have h7 := (h.blk_lt f.b (.inr (.inr ⟨f, hf, rfl⟩))).2
        omega
      · subst hf
        rw [neb]
        exact ⟨by omega, fun e => (hv7 _ e).2.2 rfl⟩
    · intro e
      have := (hv7 _ e).1
      omega
    · intro f hf
      rcases hsub f hf with hf | hf
      · exact h.lo.2 f hf
      · subst hf
        rw [neb]
        have := h.lo.1
        omega
    · intro p hp b hb
      rcases mem p hp with e | e
      · exact h.low p e b hb
      · rw [e] at hb
        have := List.eq_of_mem_replicate hb
        omega
    · intro p hp
      rcases mem p hp with e | e
      · exact h.len p e
      · rw [e, List.length_replicate]; exact hm
  · intro x hx
    rcases hx with rfl | hx | ⟨f, hf, rfl⟩
    · exact .inl (.inl rfl)
    · have := hv7 x hx
      exact .inr ⟨this.1, this.2.1⟩
    · rcases List.mem_append.1 hf with hf | hf
      · rcases List.mem_append.1 hf with hf | hf
        · exact .inl (.inr (.inr ⟨f, List.mem_of_mem_take hf, rfl⟩))
        · rw [List.mem_singleton.1 hf, hne]
          right
          have : w4.heap.size < w5.heap.size := (Array.getElem?_eq_some_iff.1 hb5).1
          show w2.heap.size ≤ w4.heap.size ∧ w4.heap.size < w7.heap.size
          exact ⟨z4, by omega⟩
      · exact .inl (.inr (.inr ⟨f, List.mem_of_mem_drop hf, rfl⟩))
/-- the greatest Used is written -/
theorem Rs.most (h : Rs B0 W rb A M l v) (m : Nat) : Rs B0 (W.setCell ⟨rb, 1, none⟩ (.int .i64 (m : Nat))) rb A m l v ∧ Upd (fun k => k = rb) W (W.setCell ⟨rb, 1, none⟩ (.int .i64 (m : Nat))) := by
  have uS : Upd (fun k => k = rb) W (W.setCell ⟨rb, 1, none⟩ (.int .i64 (m : Nat))) := (Upd.refl (fun k => k = rb) W).setCell (p := ⟨rb, 1, none⟩) (.inl rfl) _
  refine ⟨⟨?_, owns_on h.row (fun x e => uS.block x (h.blk_lt x (.inr (.inl e))).2 (fun c => h.own (by rw [← c]; exact e))), h.is, ?_, h.dis, h.out, h.own, h.lo, h.low, h.num, h.len⟩, uS⟩
  · exact heap_set (c := [_, _]) h.top 1 _
  · intro f hf
    exact (uS.block f.b (h.blk_lt f.b (.inr (.inr ⟨f, hf, rfl⟩))).2 (h.out f hf).1).trans (h.byt f hf)
end
end Go.Proofs.Ytmeoonnofiicpaa.W.R5
/- The reference's store: Take, walked. -/
namespace Go.Proofs.Ytmeoonnofiicpaa.W.R5
open Go.ChangeShapes Go.WideShapes Go.RowKit Go.Shelf
set_option linter.unusedVariables false
set_option linter.unusedSimpArgs false
theorem bel_drewN (w : World) (m : Nat) : Below w.heap.size w (w.drewN m) := ⟨rfl, rfl, rfl, Nat.le_refl _, fun _ _ => rfl⟩
section
variable {B0 : Nat} {W : World} {rb M g n cap : Nat} {A : List (Option (List Nat))} {l : List En} {v : Value}
theorem rtake_low (W : World) (rb : Nat) (m : Int) (hm : m < 0) : Calls Try.prog 12 #[(Value.pointer (some ⟨rb, 0, none⟩)), .int .i64 m] W fun e w' => e = .returned (.tuple #[.int .i64 0, .int .i64 13]) ∧ w' = W := by
  go_enter Try.func12, Try.ntmps12
  go_wp2
  go_ret2
  exact ⟨rfl, rfl⟩
theorem rtake_long (W : World) (rb : Nat) (m : Int) (hm : 8388608 < m) : Calls Try.prog 12 #[(Value.pointer (some ⟨rb, 0, none⟩)), .int .i64 m] W fun e w' => e = .returned (.tuple #[.int .i64 0, .int .i64 2]) ∧ w' = W := by
  have h0 : ¬ m < 0 := by omega
  have h1 : m > 8388608 := hm
  clear hm
  go_enter Try.func12, Try.ntmps12
  go_wp2
  go_ret2
  exact ⟨rfl, rfl⟩
/-- from find on -/
def TakeEnd (B0 : Nat) (W : World) (rb : Nat) (A : List (Option (List Nat))) (M m : Nat) (S : Nat → Prop) (w' : World) : Prop := Upd (fun k => k = rb) W w' ∧ ∃ l' v', Rs B0 w' rb (putA A (leastA A) (some (List.replicate m 0))) (max M (sumA (putA A (leastA A) (some (List.replicate m 0))))) l' v' ∧ ∀ k, Mine5 rb l' v' k → S k ∨ (W.heap.size ≤ k ∧ k < w'.heap.size)
set_option maxRecDepth 100000 in
set_option maxHeartbeats 4000000 in
theorem rtake_ok (h : Rs B0 W rb A M l v) (m : Nat) (hm : m ≤ 8388608) (hnum : A.length < 1000) : Calls Try.prog 12 #[(Value.pointer (some ⟨rb, 0, none⟩)), .int .i64 m] W fun e w' => e = .returned (.tuple #[.int .i64 (leastA A : Nat), .int .i64 0]) ∧ TakeEnd B0 W rb A M m (Mine5 rb l v) w' := by
  obtain ⟨o, cap, rfl⟩ := slice_of (owns_base h.row (b' := 0) (fun _ _ => Nat.zero_le _))
  obtain ⟨lp1, lp2, lp3, lp4⟩ := least_place h.is
  have hl := h.lt
  have c0 : W.cell? ⟨rb, 0, none⟩ = some (.slice o l.length cap) := cell_of_row _ _ 0 _ _ _ h.top
  have hc : Calls Try.prog 31 #[(Value.pointer (some ⟨rb, 0, none⟩)), .int .i64 (leastA A : Nat)] W fun e w' => e = .returned (.tuple #[.int .i64 (leastA A : Nat), .bool false]) ∧ Below W.heap.size W w' := by
    have hc := find_c h ((leastA A : Nat) : Int)
    rw [lp4] at hc
    cases he : l[leastA A]? with
    | none => rw [he] at hc; exact hc
    | some e =>
      rw [he] at hc
      have h1 := lp3 e he
      have h2 : ((e.id : Int) == ((leastA A : Nat) : Int)) = false := by rw [beq_eq_false_iff_ne]; omega
      simp only [h2] at hc
      exact hc
  obtain ⟨n, hn⟩ : ∃ n, l.length = n := ⟨_, rfl⟩
  obtain ⟨p, hp⟩ : ∃ p, leastA A = p := ⟨_, rfl⟩
  have H := hid h
  have LP := hid (And.intro lp2 lp3)
  have HP := hid hp
  have HN := hid hn
  rw [hn] at c0 hl lp1
  rw [hp] at hc lp1
  rw [hn, hp]
  have HC := hid hc
  have a0 : ¬ (m : Int) < 0 := by omega
  have a1 : ¬ (m : Int) > 8388608 := by omega
  clear h lp2 lp3 lp4 hn hp hc
  go_enter Try.func12, Try.ntmps12
  go_wp2
  go_loopw [6] (fun ii wr => ∃ k : Nat, k ≤ p ∧ ii = .int .i64 k ∧ wr = W) (fun ii _ => n - (intOf ii).toNat)
  case atStart => exact ⟨0, Nat.zero_le _, rfl, rfl⟩
  case round =>
    obtain ⟨k, hk, rfl, rfl⟩ := hrel
    by_cases hkp : k < p
    · have hkn : k < n := by omega
      obtain ⟨e, he⟩ : ∃ e, l[k]? = some e := ⟨_, List.getElem?_eq_getElem (by rw [HN.out]; exact hkn)⟩
      have hei := LP.out.1 k e (by rw [HP.out]; exact hkp) he
      obtain ⟨g, cap', hv, hkl, d0, c1, c2⟩ := H.out.at he
      injection hv with hv1 hv2 hv3
      subst hv1
      clear hv2 hv3 d0 c2
      rw [hei] at c1
      have k0 : (0 : Int) ≤ k := Int.natCast_nonneg _
      have k1 : (k : Int) < n := by omega
      have wk : IntKind.i64.wrap ((k : Int) + 1) = (k : Int) + 1 := by rw [IntKind.wrap_i64]; omega
      have HM := hid (show n - ((k : Int) + 1).toNat < n - ((k : Int)).toNat by omega)
      have HK := hid (show k + 1 ≤ p from hkp)
      clear hkp hk hkl hei he H HC lp1 hl hm
      go_wp2
      go_roundw
      case rel => exact ⟨k + 1, HK.out, rfl, by trivial⟩
      case measure => exact HM.out
    · obtain rfl : k = p := by omega
      clear hkp hk
      by_cases hkn : k < n
      · obtain ⟨e, he⟩ : ∃ e, l[k]? = some e := ⟨_, List.getElem?_eq_getElem (by rw [HN.out]; exact hkn)⟩
        have hei := LP.out.2 e (by rw [HP.out]; exact he)
        rw [HP.out] at hei
        obtain ⟨g, cap', hv, hkl, d0, c1, c2⟩ := H.out.at he
        injection hv with hv1 hv2 hv3
        subst hv1
        clear hv2 hv3 d0 c2
        obtain ⟨g', cap'', hv', hcap⟩ := own_slice (owns_base H.out.row (b' := 0) (fun _ _ => Nat.zero_le _)) (by rw [HN.out]; omega)
        injection hv' with hv1 hv2 hv3
        rw [HN.out, ← hv3] at hcap
        clear hv1 hv2 hv3
        have k0 : (0 : Int) ≤ k := Int.natCast_nonneg _
        have k1 : (k : Int) < n := by omega
        have k2 : (k : Int) ≤ cap := by omega
        have hne : ((e.id : Int) == (k : Int)) = false := by rw [beq_eq_false_iff_ne]; omega
        have hcp : ¬ cap = k := by omega
        have HE := hid (And.intro hkn hcap)
        clear he hei hkl hkn hcap
        have hkn := HE.out.1
        have hc := HC.out
        clear HC
        go_upto_region 9 with (go_at_call 31; (with_reducible refine hc.mono ?_); rintro e w2 ⟨rfl, b2⟩; clear hc)
        have r2 := H.out.below b2
        rw [HN.out] at r2
        have plan := take_plan r2 HN.out m hm hnum (.slice (some ⟨g, 0, none⟩) k cap) (.slice (some ⟨g, k * 2, none⟩) (n - k) (cap - k)) (fun w hr => .inr ⟨⟨g, 0, none⟩, cap, by rw [List.length_take, HN.out, HP.out, Nat.min_eq_left (by omega)], fun j u hu => by have := row_part hr.row 0 k (by rw [HN.out]; omega) j u (by rw [HP.out] at hu; simpa using hu); simpa using this⟩) (fun w hr => .inr ⟨⟨g, k * 2, none⟩, cap - k, by rw [List.length_drop, HN.out, HP.out], fun j u hu => by refine row_part hr.row k (n - k) (by rw [HN.out]; omega) j u ?_; rw [List.take_of_length_le (by rw [List.length_drop, HN.out]; omega)]; rw [HP.out] at hu; exact hu⟩)
        rw [HP.out] at plan
        obtain ⟨v4, w4, w5, v6, w6, oo, nn, cc, w7, run4, hmk, run6, run7, c6, c7, z7, uS, l', rs, mine⟩ := plan
        have cA : (w2.alloc (.cells #[] 63)).cell? ⟨rb, 0, none⟩ = some (.slice (some ⟨g, 0, none⟩) n cap) := cell_of_row _ _ 0 _ _ _ (r2.below ((Below.refl _ _).alloc (Nat.le_refl _) _)).top
        have HRS := hid (And.intro rs (And.intro mine (And.intro uS b2)))
        clear rs mine uS b2 r2 H
        go_upto_region 12 with (first | (at_builtin; refine Lib.wpList_append_run _ rfl (.tmp 41) (.tmp 47) 27 27 rfl _ _ (by simp [Act.eval]) (by simp [Act.eval]) _ _ run4 ?_) | (at_builtin; refine Lib.wpList_append_run _ rfl (.tmp 49) (.tmp 54) 27 27 rfl _ _ (by simp [Act.eval]) (by simp [Act.eval]) _ _ run6 ?_) | (at_builtin; refine Lib.wpList_append_run _ rfl (.tmp 57) (.tmp 63) 27 27 rfl _ _ (by simp [Act.eval]) (by simp [Act.eval]) _ _ run7 ?_))
        clear run4 run6 run7 hmk c6 c7 z7 cA
        obtain ⟨rs, mine, uS, b2⟩ := HRS.out
        generalize hw8 : World.setCell w7 ⟨rb, 0, none⟩ (.slice oo nn cc) = w8 at *
        have hz7 : w7.heap.size = w8.heap.size := by rw [← hw8]; simp [World.setCell]
        rw [hz7] at mine
        have fin : ∀ w', Below w8.heap.size w8 w' → Upd (fun k => k = rb) wr w' ∧ Rs B0 w' rb (putA A k (some (List.replicate m 0))) M l' (.slice oo nn cc) ∧ ∀ x, Mine5 rb l' (.slice oo nn cc) x → Mine5 rb l (.slice (some ⟨g, 0, none⟩) n cap) x ∨ (wr.heap.size ≤ x ∧ x < w'.heap.size) := by
          intro w' hB
          refine ⟨((Upd.of_below b2).trans' uS).trans' (Upd.of_below hB), rs.below hB, fun x hx => ?_⟩
          rcases mine x hx with e | e
          · exact .inl e
          · have := b2.size
            have := hB.size
            right; omega
        have hz := rs.most
        have cu := fun w' (hB : Below w8.heap.size w8 w') => rused_c (rs.below hB)
        have cm : w8.cell? ⟨rb, 1, none⟩ = some (.int .i64 (M : Nat)) := cell_of_row _ _ 1 _ _ _ rs.top
        have FINW := hid fin
        have HRSM := hid (fun w' (hB : Below w8.heap.size w8 w') => (rs.below hB).most)
        have ZR := hid (fun w' (hB : Below w8.heap.size w8 w') => (show w'.frozen? ⟨rb, 1, none⟩ = false by simp [World.frozen?, (rs.below hB).top]))
        have CM := hid (fun w' (hB : Below w8.heap.size w8 w') => (show w'.cell? ⟨rb, 1, none⟩ = some (.int .i64 (M : Nat)) from cell_of_row _ _ 1 _ _ _ (rs.below hB).top))
        have CU := hid cu
        clear rs mine uS b2 hw8 hz7 fin HRS hz
        have cq := fun nq => CU.out (w8.drewN nq) (bel_drewN w8 nq)
        clear cu
        obtain ⟨s, hs⟩ : ∃ s, sumA (putA A k (some (List.replicate m 0))) = s := ⟨_, rfl⟩
        rw [hs] at cq
        have HS := hid hs
        clear hs
        go_quiet ((go_at_call 26; exact Calls.quiet_of_same (cq _)))
        have b9 := bel_drewN w8 nq
        generalize w8.drewN nq = w9 at *
        have cu := CU.out w9 b9
        rw [HS.out] at cu
        have cm9 := CM.out w9 b9
        have z9 := ZR.out w9 b9
        have F9 := hid (FINW.out w9 b9)
        have M9 := hid (HRSM.out w9 b9)
        clear cm cq CU CM ZR FINW HRSM b9 HE
        by_cases hgt : (s : Int) > (M : Int)
        · go_wp2_with (go_at_call 26; (with_reducible refine cu.mono ?_); rintro e w' ⟨rfl, hw'⟩; (have hw2 := hw'.symm); subst hw2; clear hw')
          go_ret2
          refine ⟨rfl, ?_⟩
          obtain ⟨f1, f2, f3⟩ := F9.out
          obtain ⟨m1, m2⟩ := M9.out s
          unfold TakeEnd
          rw [HP.out, HS.out, Nat.max_eq_right (by omega)]
          refine ⟨f1.trans' m2, _, _, m1, fun x hx => ?_⟩
          rcases f3 x hx with e | e
          · exact .inl e
          · have := m2.size
            right; omega
        · go_wp2
          go_ret2
          refine ⟨rfl, ?_⟩
          obtain ⟨f1, f2, f3⟩ := F9.out
          unfold TakeEnd
          rw [HP.out, HS.out, Nat.max_eq_left (by omega)]
          exact ⟨f1, _, _, f2, f3⟩
      · have hkn' : k = n := by omega
        have k1 : ¬ (k : Int) < n := by omega
        have k0 : (0 : Int) ≤ k := Int.natCast_nonneg _
        have HE := hid hkn'
        clear hkn
        cases o with
        | none =>
          obtain ⟨h1, h2, h3⟩ : n = 0 ∧ cap = 0 ∧ k = 0 := by
            rcases H.out.row.2 with ⟨hv, h0⟩ | ⟨_, _, _, hv, _⟩
            · injection hv with _ _ hc
              have := HN.out
              omega
            · cases hv
          have k2 : (k : Int) ≤ cap := by omega
          obtain hcp : cap = k := by omega
          have HZ := hid (And.intro h1 h3)
          clear hkn' h1 h2 h3
          subst hcp
          have hc := HC.out
          clear HC
          go_upto_region 9 with (go_at_call 31; (with_reducible refine hc.mono ?_); rintro e w2 ⟨rfl, b2⟩; clear hc)
          have r2 := H.out.below b2
          rw [HN.out] at r2
          have plan := take_plan r2 HN.out m hm hnum (.slice none cap cap) (.slice none (n - cap) 0) (fun w hr => .inl ⟨by rw [HP.out, HZ.out.2]; rfl, none, cap, congrArg (fun x => Value.slice none x cap) HZ.out.2⟩) (fun w hr => .inl ⟨by rw [HP.out]; exact List.drop_of_length_le (by rw [HN.out]; have := HE.out; omega), none, 0, congrArg (fun x => Value.slice none x 0) (by have := HE.out; omega)⟩)
          rw [HP.out] at plan
          obtain ⟨v4, w4, w5, v6, w6, oo, nn, cc, w7, run4, hmk, run6, run7, c6, c7, z7, uS, l', rs, mine⟩ := plan
          have cA : (w2.alloc (.cells #[] 63)).cell? ⟨rb, 0, none⟩ = some (.slice none n cap) := cell_of_row _ _ 0 _ _ _ (r2.below ((Below.refl _ _).alloc (Nat.le_refl _) _)).top
          have HRS := hid (And.intro rs (And.intro mine (And.intro uS b2)))
          clear rs mine uS b2 r2 H
          go_upto_region 12 with (first | (at_builtin; refine Lib.wpList_append_run _ rfl (.tmp 41) (.tmp 47) 27 27 rfl _ _ (by simp [Act.eval]) (by simp [Act.eval]) _ _ run4 ?_) | (at_builtin; refine Lib.wpList_append_run _ rfl (.tmp 49) (.tmp 54) 27 27 rfl _ _ (by simp [Act.eval]) (by simp [Act.eval]) _ _ run6 ?_) | (at_builtin; refine Lib.wpList_append_run _ rfl (.tmp 57) (.tmp 63) 27 27 rfl _ _ (by simp [Act.eval]) (by simp [Act.eval]) _ _ run7 ?_))
          clear run4 run6 run7 hmk c6 c7 z7 cA
          obtain ⟨rs, mine, uS, b2⟩ := HRS.out
          generalize hw8 : World.setCell w7 ⟨rb, 0, none⟩ (.slice oo nn cc) = w8 at *
          have hz7 : w7.heap.size = w8.heap.size := by rw [← hw8]; simp [World.setCell]
          rw [hz7] at mine
          have fin : ∀ w', Below w8.heap.size w8 w' → Upd (fun k => k = rb) wr w' ∧ Rs B0 w' rb (putA A cap (some (List.replicate m 0))) M l' (.slice oo nn cc) ∧ ∀ x, Mine5 rb l' (.slice oo nn cc) x → Mine5 rb l (.slice none n cap) x ∨ (wr.heap.size ≤ x ∧ x < w'.heap.size) := by
            intro w' hB
            refine ⟨((Upd.of_below b2).trans' uS).trans' (Upd.of_below hB), rs.below hB, fun x hx => ?_⟩
            rcases mine x hx with e | e
            · exact .inl e
            · have := b2.size
              have := hB.size
              right; omega
          have hz := rs.most
          have cu := fun w' (hB : Below w8.heap.size w8 w') => rused_c (rs.below hB)
          have cm : w8.cell? ⟨rb, 1, none⟩ = some (.int .i64 (M : Nat)) := cell_of_row _ _ 1 _ _ _ rs.top
          have FINW := hid fin
          have HRSM := hid (fun w' (hB : Below w8.heap.size w8 w') => (rs.below hB).most)
          have ZR := hid (fun w' (hB : Below w8.heap.size w8 w') => (show w'.frozen? ⟨rb, 1, none⟩ = false by simp [World.frozen?, (rs.below hB).top]))
          have CM := hid (fun w' (hB : Below w8.heap.size w8 w') => (show w'.cell? ⟨rb, 1, none⟩ = some (.int .i64 (M : Nat)) from cell_of_row _ _ 1 _ _ _ (rs.below hB).top))
          have CU := hid cu
          clear rs mine uS b2 hw8 hz7 fin HRS hz
          have cq := fun nq => CU.out (w8.drewN nq) (bel_drewN w8 nq)
          clear cu
          obtain ⟨s, hs⟩ : ∃ s, sumA (putA A cap (some (List.replicate m 0))) = s := ⟨_, rfl⟩
          rw [hs] at cq
          have HS := hid hs
          clear hs
          go_quiet ((go_at_call 26; exact Calls.quiet_of_same (cq _)))
          have b9 := bel_drewN w8 nq
          generalize w8.drewN nq = w9 at *
          have cu := CU.out w9 b9
          rw [HS.out] at cu
          have cm9 := CM.out w9 b9
          have z9 := ZR.out w9 b9
          have F9 := hid (FINW.out w9 b9)
          have M9 := hid (HRSM.out w9 b9)
          clear cm cq CU CM ZR FINW HRSM b9 HE
          by_cases hgt : (s : Int) > (M : Int)
          · go_wp2_with (go_at_call 26; (with_reducible refine cu.mono ?_); rintro e w' ⟨rfl, hw'⟩; (have hw2 := hw'.symm); subst hw2; clear hw')
            go_ret2
            refine ⟨rfl, ?_⟩
            obtain ⟨f1, f2, f3⟩ := F9.out
            obtain ⟨m1, m2⟩ := M9.out s
            unfold TakeEnd
            rw [HP.out, HS.out, Nat.max_eq_right (by omega)]
            refine ⟨f1.trans' m2, _, _, m1, fun x hx => ?_⟩
            rcases f3 x hx with e | e
            · exact .inl e
            · have := m2.size
              right; omega
          · go_wp2
            go_ret2
            refine ⟨rfl, ?_⟩
            obtain ⟨f1, f2, f3⟩ := F9.out
            unfold TakeEnd
            rw [HP.out, HS.out, Nat.max_eq_left (by omega)]
            exact ⟨f1, _, _, f2, f3⟩
        | some a =>
          obtain ⟨g, rfl, hcap⟩ : ∃ g, a = ⟨g, 0, none⟩ ∧ n ≤ cap := by
            rcases H.out.row.2 with ⟨hv, h0⟩ | ⟨g, cap', _, hv, _, _, hle, _⟩
            · cases hv
            · injection hv with h1 _ h3
              injection h1 with h1
              have := HN.out
              exact ⟨g, h1, by omega⟩
          have k2 : (k : Int) ≤ cap := by omega
          by_cases hcp : cap = k
          · subst hcp
            clear hkn' hcap
            have hc := HC.out
            clear HC
            go_upto_region 9 with (go_at_call 31; (with_reducible refine hc.mono ?_); rintro e w2 ⟨rfl, b2⟩; clear hc)
            have r2 := H.out.below b2
            rw [HN.out] at r2
            have plan := take_plan r2 HN.out m hm hnum (.slice (some ⟨g, 0, none⟩) cap cap) (.slice (some ⟨g, 0, none⟩) (n - cap) 0) (fun w hr => .inr ⟨⟨g, 0, none⟩, cap, by rw [List.length_take, HN.out, HP.out, Nat.min_eq_left (by have := HE.out; omega)], fun j u hu => by have := row_part hr.row 0 cap (by rw [HN.out]; have := HE.out; omega) j u (by rw [HP.out] at hu; simpa using hu); simpa using this⟩) (fun w hr => .inl ⟨by rw [HP.out]; exact List.drop_of_length_le (by rw [HN.out]; have := HE.out; omega), some ⟨g, 0, none⟩, 0, by rw [show n - cap = 0 by have := HE.out; omega]⟩)
            rw [HP.out] at plan
            obtain ⟨v4, w4, w5, v6, w6, oo, nn, cc, w7, run4, hmk, run6, run7, c6, c7, z7, uS, l', rs, mine⟩ := plan
            have cA : (w2.alloc (.cells #[] 63)).cell? ⟨rb, 0, none⟩ = some (.slice (some ⟨g, 0, none⟩) n cap) := cell_of_row _ _ 0 _ _ _ (r2.below ((Below.refl _ _).alloc (Nat.le_refl _) _)).top
            have HRS := hid (And.intro rs (And.intro mine (And.intro uS b2)))
            clear rs mine uS b2 r2 H
            go_upto_region 12 with (first | (at_builtin; refine Lib.wpList_append_run _ rfl (.tmp 41) (.tmp 47) 27 27 rfl _ _ (by simp [Act.eval]) (by simp [Act.eval]) _ _ run4 ?_) | (at_builtin; refine Lib.wpList_append_run _ rfl (.tmp 49) (.tmp 54) 27 27 rfl _ _ (by simp [Act.eval]) (by simp [Act.eval]) _ _ run6 ?_) | (at_builtin; refine Lib.wpList_append_run _ rfl (.tmp 57) (.tmp 63) 27 27 rfl _ _ (by simp [Act.eval]) (by simp [Act.eval]) _ _ run7 ?_))
            clear run4 run6 run7 hmk c6 c7 z7 cA
            obtain ⟨rs, mine, uS, b2⟩ := HRS.out
            generalize hw8 : World.setCell w7 ⟨rb, 0, none⟩ (.slice oo nn cc) = w8 at *
            have hz7 : w7.heap.size = w8.heap.size := by rw [← hw8]; simp [World.setCell]
            rw [hz7] at mine
            have fin : ∀ w', Below w8.heap.size w8 w' → Upd (fun k => k = rb) wr w' ∧ Rs B0 w' rb (putA A cap (some (List.replicate m 0))) M l' (.slice oo nn cc) ∧ ∀ x, Mine5 rb l' (.slice oo nn cc) x → Mine5 rb l (.slice (some ⟨g, 0, none⟩) n cap) x ∨ (wr.heap.size ≤ x ∧ x < w'.heap.size) := by
              intro w' hB
              refine ⟨((Upd.of_below b2).trans' uS).trans' (Upd.of_below hB), rs.below hB, fun x hx => ?_⟩
              rcases mine x hx with e | e
              · exact .inl e
              · have := b2.size
                have := hB.size
                right; omega
            have hz := rs.most
            have cu := fun w' (hB : Below w8.heap.size w8 w') => rused_c (rs.below hB)
            have cm : w8.cell? ⟨rb, 1, none⟩ = some (.int .i64 (M : Nat)) := cell_of_row _ _ 1 _ _ _ rs.top
            have FINW := hid fin
            have HRSM := hid (fun w' (hB : Below w8.heap.size w8 w') => (rs.below hB).most)
            have ZR := hid (fun w' (hB : Below w8.heap.size w8 w') => (show w'.frozen? ⟨rb, 1, none⟩ = false by simp [World.frozen?, (rs.below hB).top]))
            have CM := hid (fun w' (hB : Below w8.heap.size w8 w') => (show w'.cell? ⟨rb, 1, none⟩ = some (.int .i64 (M : Nat)) from cell_of_row _ _ 1 _ _ _ (rs.below hB).top))
            have CU := hid cu
            clear rs mine uS b2 hw8 hz7 fin HRS hz
            have cq := fun nq => CU.out (w8.drewN nq) (bel_drewN w8 nq)
            clear cu
            obtain ⟨s, hs⟩ : ∃ s, sumA (putA A cap (some (List.replicate m 0))) = s := ⟨_, rfl⟩
            rw [hs] at cq
            have HS := hid hs
            clear hs
            go_quiet ((go_at_call 26; exact Calls.quiet_of_same (cq _)))
            have b9 := bel_drewN w8 nq
            generalize w8.drewN nq = w9 at *
            have cu := CU.out w9 b9
            rw [HS.out] at cu
            have cm9 := CM.out w9 b9
            have z9 := ZR.out w9 b9
            have F9 := hid (FINW.out w9 b9)
            have M9 := hid (HRSM.out w9 b9)
            clear cm cq CU CM ZR FINW HRSM b9 HE
            by_cases hgt : (s : Int) > (M : Int)
            · go_wp2_with (go_at_call 26; (with_reducible refine cu.mono ?_); rintro e w' ⟨rfl, hw'⟩; (have hw2 := hw'.symm); subst hw2; clear hw')
              go_ret2
              refine ⟨rfl, ?_⟩
              obtain ⟨f1, f2, f3⟩ := F9.out
              obtain ⟨m1, m2⟩ := M9.out s
              unfold TakeEnd
              rw [HP.out, HS.out, Nat.max_eq_right (by omega)]
              refine ⟨f1.trans' m2, _, _, m1, fun x hx => ?_⟩
              rcases f3 x hx with e | e
              · exact .inl e
              · have := m2.size
                right; omega
            · go_wp2
              go_ret2
              refine ⟨rfl, ?_⟩
              obtain ⟨f1, f2, f3⟩ := F9.out
              unfold TakeEnd
              rw [HP.out, HS.out, Nat.max_eq_left (by omega)]
              exact ⟨f1, _, _, f2, f3⟩
          · have HCP := hid (And.intro hcap hkn')
            clear hkn' hcap
            have hc := HC.out
            clear HC
            go_upto_region 9 with (go_at_call 31; (with_reducible refine hc.mono ?_); rintro e w2 ⟨rfl, b2⟩; clear hc)
            have r2 := H.out.below b2
            rw [HN.out] at r2
            have plan := take_plan r2 HN.out m hm hnum (.slice (some ⟨g, 0, none⟩) k cap) (.slice (some ⟨g, k * 2, none⟩) (n - k) (cap - k)) (fun w hr => .inr ⟨⟨g, 0, none⟩, cap, by rw [List.length_take, HN.out, HP.out, Nat.min_eq_left (by have := HE.out; omega)], fun j u hu => by have := row_part hr.row 0 k (by rw [HN.out]; have := HE.out; omega) j u (by rw [HP.out] at hu; simpa using hu); simpa using this⟩) (fun w hr => .inr ⟨⟨g, k * 2, none⟩, cap - k, by rw [List.length_drop, HN.out, HP.out], fun j u hu => by refine row_part hr.row k (n - k) (by rw [HN.out]; have := HE.out; omega) j u ?_; rw [List.take_of_length_le (by rw [List.length_drop, HN.out]; have := HE.out; omega)]; rw [HP.out] at hu; exact hu⟩)
            rw [HP.out] at plan
            obtain ⟨v4, w4, w5, v6, w6, oo, nn, cc, w7, run4, hmk, run6, run7, c6, c7, z7, uS, l', rs, mine⟩ := plan
            have cA : (w2.alloc (.cells #[] 63)).cell? ⟨rb, 0, none⟩ = some (.slice (some ⟨g, 0, none⟩) n cap) := cell_of_row _ _ 0 _ _ _ (r2.below ((Below.refl _ _).alloc (Nat.le_refl _) _)).top
            have HRS := hid (And.intro rs (And.intro mine (And.intro uS b2)))
            clear rs mine uS b2 r2 H
            go_upto_region 12 with (first | (at_builtin; refine Lib.wpList_append_run _ rfl (.tmp 41) (.tmp 47) 27 27 rfl _ _ (by simp [Act.eval]) (by simp [Act.eval]) _ _ run4 ?_) | (at_builtin; refine Lib.wpList_append_run _ rfl (.tmp 49) (.tmp 54) 27 27 rfl _ _ (by simp [Act.eval]) (by simp [Act.eval]) _ _ run6 ?_) | (at_builtin; refine Lib.wpList_append_run _ rfl (.tmp 57) (.tmp 63) 27 27 rfl _ _ (by simp [Act.eval]) (by simp [Act.eval]) _ _ run7 ?_))
            clear run4 run6 run7 hmk c6 c7 z7 cA
            obtain ⟨rs, mine, uS, b2⟩ := HRS.out
            generalize hw8 : World.setCell w7 ⟨rb, 0, none⟩ (.slice oo nn cc) = w8 at *
            have hz7 : w7.heap.size = w8.heap.size := by rw [← hw8]; simp [World.setCell]
            rw [hz7] at mine
            have fin : ∀ w', Below w8.heap.size w8 w' → Upd (fun k => k = rb) wr w' ∧ Rs B0 w' rb (putA A k (some (List.replicate m 0))) M l' (.slice oo nn cc) ∧ ∀ x, Mine5 rb l' (.slice oo nn cc) x → Mine5 rb l (.slice (some ⟨g, 0, none⟩) n cap) x ∨ (wr.heap.size ≤ x ∧ x < w'.heap.size) := by
              intro w' hB
              refine ⟨((Upd.of_below b2).trans' uS).trans' (Upd.of_below hB), rs.below hB, fun x hx => ?_⟩
              rcases mine x hx with e | e
              · exact .inl e
              · have := b2.size
                have := hB.size
                right; omega
            have hz := rs.most
            have cu := fun w' (hB : Below w8.heap.size w8 w') => rused_c (rs.below hB)
            have cm : w8.cell? ⟨rb, 1, none⟩ = some (.int .i64 (M : Nat)) := cell_of_row _ _ 1 _ _ _ rs.top
            have FINW := hid fin
            have HRSM := hid (fun w' (hB : Below w8.heap.size w8 w') => (rs.below hB).most)
            have ZR := hid (fun w' (hB : Below w8.heap.size w8 w') => (show w'.frozen? ⟨rb, 1, none⟩ = false by simp [World.frozen?, (rs.below hB).top]))
            have CM := hid (fun w' (hB : Below w8.heap.size w8 w') => (show w'.cell? ⟨rb, 1, none⟩ = some (.int .i64 (M : Nat)) from cell_of_row _ _ 1 _ _ _ (rs.below hB).top))
            have CU := hid cu
            clear rs mine uS b2 hw8 hz7 fin HRS hz
            have cq := fun nq => CU.out (w8.drewN nq) (bel_drewN w8 nq)
            clear cu
            obtain ⟨s, hs⟩ : ∃ s, sumA (putA A k (some (List.replicate m 0))) = s := ⟨_, rfl⟩
            rw [hs] at cq
            have HS := hid hs
            clear hs
            go_quiet ((go_at_call 26; exact Calls.quiet_of_same (cq _)))
            have b9 := bel_drewN w8 nq
            generalize w8.drewN nq = w9 at *
            have cu := CU.out w9 b9
            rw [HS.out] at cu
            have cm9 := CM.out w9 b9
            have z9 := ZR.out w9 b9
            have F9 := hid (FINW.out w9 b9)
            have M9 := hid (HRSM.out w9 b9)
            clear cm cq CU CM ZR FINW HRSM b9 HE
            by_cases hgt : (s : Int) > (M : Int)
            · go_wp2_with (go_at_call 26; (with_reducible refine cu.mono ?_); rintro e w' ⟨rfl, hw'⟩; (have hw2 := hw'.symm); subst hw2; clear hw')
              go_ret2
              refine ⟨rfl, ?_⟩
              obtain ⟨f1, f2, f3⟩ := F9.out
              obtain ⟨m1, m2⟩ := M9.out s
              unfold TakeEnd
              rw [HP.out, HS.out, Nat.max_eq_right (by omega)]
              refine ⟨f1.trans' m2, _, _, m1, fun x hx => ?_⟩
              rcases f3 x hx with e | e
              · exact .inl e
              · have := m2.size
                right; omega
            · go_wp2
              go_ret2
              refine ⟨rfl, ?_⟩
              obtain ⟨f1, f2, f3⟩ := F9.out
              unfold TakeEnd
              rw [HP.out, HS.out, Nat.max_eq_left (by omega)]
              exact ⟨f1, _, _, f2, f3⟩
end
end Go.Proofs.Ytmeoonnofiicpaa.W.R5
