import Derived.Test.YtdafcfmbnlgbfaaS7cJ
import Derived.Maps.OwnSet
import Derived.Maps.RangeWalk
/- StorePacks in plain words: a map of Ids and lengths beside a store; what has been counted; how many extents are told. -/
namespace Go.Proofs.Ytdafcfmbnlgbfaa.W
open Go.ChangeShapes Go.WideShapes Go.RowKit Go.Shelf
set_option linter.unusedVariables false
/-- how many Ids hold something -/
def cntA (A : List (Option (List Nat))) : Nat := (A.filter (fun x => x.isSome)).length
theorem cntA_cons (x : Option (List Nat)) (A : List (Option (List Nat))) : cntA (x :: A) = (if x.isSome then 1 else 0) + cntA A := by
  unfold cntA
  cases x with
  | none => simp
  | some y => simp; omega
theorem cntA_snoc (A : List (Option (List Nat))) (x : Option (List Nat)) : cntA (A ++ [x]) = cntA A + (if x.isSome then 1 else 0) := by
  unfold cntA
  rw [List.filter_append, List.length_append]
  cases x with
  | none => simp
  | some y => simp
theorem cntA_set (A : List (Option (List Nat))) (i : Nat) (x : Option (List Nat)) (h : i < A.length) : cntA (A.set i x) + (if A[i].isSome then 1 else 0) = cntA A + (if x.isSome then 1 else 0) := by
  induction A generalizing i with
  | nil => exact absurd h (by simp)
  | cons a A ih =>
    cases i with
    | zero => simp only [List.set_cons_zero, cntA_cons, List.getElem_cons_zero]; omega
    | succ i =>
      have := ih i (by simpa using h)
      simp only [List.set_cons_succ, cntA_cons, List.getElem_cons_succ]; omega
theorem least_is_none {A : List (Option (List Nat))} (h : leastA A < A.length) : A[leastA A] = none := by
  have := List.findIdx_getElem (w := h)
  exact Option.isNone_iff_eq_none.1 this
theorem least_le (A : List (Option (List Nat))) : leastA A ≤ A.length := List.findIdx_le_length
theorem cntA_put (A : List (Option (List Nat))) (y : List Nat) : cntA (putA A (leastA A) (some y)) = cntA A + 1 := by
  unfold putA
  by_cases c : leastA A < A.length
  · rw [if_pos c]
    have h1 := cntA_set A (leastA A) (some y) c
    rw [least_is_none c] at h1
    simpa using h1
  · rw [if_neg c, cntA_snoc]; rfl
theorem putA_self (A : List (Option (List Nat))) (x : Option (List Nat)) : (putA A (leastA A) x)[leastA A]? = some x := by
  unfold putA
  by_cases c : leastA A < A.length
  · rw [if_pos c, List.getElem?_set_self c]
  · have := least_le A
    rw [if_neg c, show leastA A = A.length by omega]; simp
theorem putA_ne (A : List (Option (List Nat))) (x : Option (List Nat)) (i : Nat) (h : i ≠ leastA A) : (putA A (leastA A) x)[i]? = A[i]? := by
  unfold putA
  by_cases c : leastA A < A.length
  · rw [if_pos c, List.getElem?_set_ne (by omega)]
  · have := least_le A
    rw [if_neg c]
    by_cases d : i < A.length
    · rw [List.getElem?_append_left d]
    · rw [List.getElem?_eq_none (by rw [List.length_append]; simp; omega), List.getElem?_eq_none (by omega)]
theorem putA_set (A : List (Option (List Nat))) (x y : Option (List Nat)) : (putA A (leastA A) x).set (leastA A) y = putA A (leastA A) y := by
  unfold putA
  have := least_le A
  by_cases c : leastA A < A.length
  · rw [if_pos c, if_pos c, List.set_set]
  · rw [if_neg c, if_neg c, show leastA A = A.length by omega]; simp
/-- a key -/
def kI (z : Int) : Lit := .int .i64 z
abbrev Dm := DataW Unit
theorem kI_key (z : Int) : WideAt.IsKeyLit (kI z) := trivial
theorem kI_ne {a b : Int} (h : a ≠ b) : kI a ≠ kI b := fun e => h (by injection e)
/-- the map holds the lengths of what the Ids hold; of each the last byte is its own -/
structure Mp (A : List (Option (List Nat))) (D : Dm) : Prop where
  tidy : Maps.Tidy D
  has : ∀ z : Int, Maps.has D (kI z) = true ↔ ∃ (id : Nat) (x : List Nat), z = id ∧ A[id]? = some (some x)
  val : ∀ (id : Nat) (x : List Nat), A[id]? = some (some x) → ∀ zd, D.atKey (kI (id : Int)) zd = .lit (.int .i64 (x.length : Int))
  size : Maps.size D = cntA A
  byte : ∀ (id : Nat) (x : List Nat), A[id]? = some (some x) → x.length ≤ 200 ∧ (0 < x.length → x[x.length - 1]? = some ((id + 7) % 256))
theorem mp_nil : Mp [] (.map []) := ⟨Maps.tidy_empty, fun z => ⟨(fun h => by cases h), (fun ⟨id, x, _, h⟩ => by simp at h)⟩, (fun id x h => by simp at h), rfl, (fun id x h => by simp at h)⟩
theorem Mp.put {A : List (Option (List Nat))} {D : Dm} (m : Mp A D) (y : List Nat) (hl : y.length ≤ 200) (hb : 0 < y.length → y[y.length - 1]? = some ((leastA A + 7) % 256)) : Mp (putA A (leastA A) (some y)) (D.put (kI (leastA A : Nat)) (.lit (.int .i64 (y.length : Int)))) := by
  have hno : Maps.has D (kI (leastA A : Nat)) = false := by
    cases h : Maps.has D (kI (leastA A : Nat)) with
    | false => rfl
    | true =>
      obtain ⟨id, x, e, hx⟩ := (m.has _).1 h
      have e' : leastA A = id := by omega
      subst e'
      have hl := (List.getElem?_eq_some_iff.1 hx).1
      rw [List.getElem?_eq_getElem hl, least_is_none hl] at hx
      cases hx
  refine ⟨m.tidy.put (kI_key _) _, ?_, ?_, ?_, ?_⟩
  · intro z
    by_cases e : z = (leastA A : Nat)
    · subst e
      exact ⟨fun _ => ⟨leastA A, y, rfl, putA_self A _⟩, fun _ => Maps.has_put_same m.tidy.isMap (kI_key _) _⟩
    · rw [Maps.has_put_other (kI_ne e), m.has z]
      constructor
      · rintro ⟨id, x, rfl, hx⟩
        exact ⟨id, x, rfl, by rw [putA_ne A _ id (by omega)]; exact hx⟩
      · rintro ⟨id, x, rfl, hx⟩
        exact ⟨id, x, rfl, by rw [putA_ne A _ id (by omega)] at hx; exact hx⟩
  · intro id x hx zd
    by_cases e : id = leastA A
    · subst e
      rw [putA_self] at hx
      cases hx
      exact Maps.atKey_put_same m.tidy.isMap (kI_key _) _ _
    · rw [putA_ne A _ id e] at hx
      rw [Maps.atKey_put_other (kI_ne (by omega))]
      exact m.val id x hx zd
  · rw [Maps.size_put m.tidy, hno, cntA_put, m.size]; rfl
  · intro id x hx
    by_cases e : id = leastA A
    · subst e
      rw [putA_self] at hx
      cases hx
      exact ⟨hl, hb⟩
    · rw [putA_ne A _ id e] at hx
      exact m.byte id x hx
theorem Mp.del {A : List (Option (List Nat))} {D : Dm} (m : Mp A D) (id : Nat) (x : List Nat) (hx : A[id]? = some (some x)) : Mp (A.set id none) (D.del (kI (id : Nat))) := by
  have hl := (List.getElem?_eq_some_iff.1 hx).1
  have hh : Maps.has D (kI (id : Nat)) = true := (m.has _).2 ⟨id, x, rfl, hx⟩
  refine ⟨m.tidy.del _, ?_, ?_, ?_, ?_⟩
  · intro z
    by_cases e : z = (id : Nat)
    · subst e
      rw [Maps.has_del_same]
      constructor
      · intro h; cases h
      · rintro ⟨i, y, e, hy⟩
        have : id = i := by omega
        subst this
        rw [List.getElem?_set_self hl] at hy
        cases hy
    · rw [Maps.has_del_other (kI_ne e), m.has z]
      constructor
      · rintro ⟨i, y, rfl, hy⟩
        exact ⟨i, y, rfl, by rw [List.getElem?_set_ne (by omega)]; exact hy⟩
      · rintro ⟨i, y, rfl, hy⟩
        exact ⟨i, y, rfl, by rw [List.getElem?_set_ne (by omega)] at hy; exact hy⟩
  · intro i y hy zd
    by_cases e : id = i
    · subst e; rw [List.getElem?_set_self hl] at hy; cases hy
    · rw [List.getElem?_set_ne e] at hy
      rw [Maps.atKey_del_other (kI_ne (by omega))]
      exact m.val i y hy zd
  · have h1 := Maps.size_del (k := kI (id : Nat)) m.tidy
    rw [hh, m.size] at h1
    have h2 := cntA_set A id none hl
    have h3 : A[id] = some x := (List.getElem?_eq_some_iff.1 hx).2
    rw [h3] at h2
    simp at h1 h2
    omega
  · intro i y hy
    by_cases e : id = i
    · subst e; rw [List.getElem?_set_self hl] at hy; cases hy
    · rw [List.getElem?_set_ne e] at hy
      exact m.byte i y hy
/-- what those need that f names -/
def visF (f : Nat → Bool) : List (Option (List Nat)) → Nat → Nat
  | [], _ => 0
  | x :: r, i => (if f i then lenA x else 0) + visF f r (i + 1)
theorem visF_none (f : Nat → Bool) : ∀ (A : List (Option (List Nat))) (i : Nat), (∀ j x, A[j]? = some (some x) → f (i + j) = false) → visF f A i = 0
  | [], _, _ => rfl
  | x :: r, i, h => by
    show (if f i then lenA x else 0) + visF f r (i + 1) = 0
    rw [visF_none f r (i + 1) (fun j y hy => by have := h (j + 1) y (by simpa using hy); rwa [show i + 1 + j = i + (j + 1) by omega])]
    cases x with
    | none => split <;> rfl
    | some y => rw [if_neg (by have := h 0 y rfl; rw [Nat.add_zero] at this; simp [this])]
theorem visF_all (f : Nat → Bool) : ∀ (A : List (Option (List Nat))) (i : Nat), (∀ j, f j = true) → visF f A i = sumA A
  | [], _, _ => rfl
  | x :: r, i, h => by
    show (if f i then lenA x else 0) + visF f r (i + 1) = _
    rw [visF_all f r (i + 1) h, if_pos (h i), sumA_cons]
theorem visF_far (f g : Nat → Bool) : ∀ (A : List (Option (List Nat))) (i : Nat), (∀ j, i ≤ j → f j = g j) → visF f A i = visF g A i
  | [], _, _ => rfl
  | x :: r, i, h => by
    show (if f i then lenA x else 0) + visF f r (i + 1) = (if g i then lenA x else 0) + visF g r (i + 1)
    rw [visF_far f g r (i + 1) (fun j hj => h j (by omega)), h i (Nat.le_refl _)]
theorem visF_one (f g : Nat → Bool) (k : Nat) : ∀ (A : List (Option (List Nat))) (i : Nat) (x : List Nat), A[k]? = some (some x) → f (i + k) = false → g (i + k) = true → (∀ j, j ≠ i + k → g j = f j) → visF g A i = visF f A i + up8N x.length := by
  induction k with
  | zero =>
    intro A i x hx hf hg h
    cases A with
    | nil => simp at hx
    | cons a r =>
      simp at hx
      subst hx
      show (if g i then lenA (some x) else 0) + visF g r (i + 1) = (if f i then lenA (some x) else 0) + visF f r (i + 1) + _
      rw [Nat.add_zero] at hf hg
      rw [visF_far g f r (i + 1) (fun j hj => h j (by omega)), hf, hg]
      simp [lenA]; omega
  | succ k ih =>
    intro A i x hx hf hg h
    cases A with
    | nil => simp at hx
    | cons a r =>
      show (if g i then lenA a else 0) + visF g r (i + 1) = (if f i then lenA a else 0) + visF f r (i + 1) + _
      rw [ih r (i + 1) x (by simpa using hx) (by rwa [show i + 1 + k = i + (k + 1) by omega]) (by rwa [show i + 1 + k = i + (k + 1) by omega]) (fun j hj => h j (by omega)), h i (by omega)]
      omega
/-- how many extents are told -/
theorem ext_count {s : Sto} {E : List Ex} {A : List (Option (List Nat))} (g : Good s E) (ha : All s A) : (extL s E).length = cntA A := by
  have key : ∀ id, id < s.blks.length → ((held s id).isSome = true ↔ (id ∈ E.map (fun e => e.n - 1) ∨ isZ s id = true)) ∧ ¬ (id ∈ E.map (fun e => e.n - 1) ∧ isZ s id = true) := by
    intro id hid
    have hb : s.blks[id]? = some s.blks[id] := List.getElem?_eq_getElem hid
    have hmem : id ∈ E.map (fun e => e.n - 1) ↔ id + 1 ∈ numE E := by
      constructor
      · intro h
        obtain ⟨e, he, hn⟩ := List.mem_map.1 h
        have h0 := (g.lies.2.1 e he).2.2
        refine List.mem_map.2 ⟨e, List.mem_cons_of_mem _ he, by omega⟩
      · intro h
        obtain ⟨e, he, hn⟩ := List.mem_map.1 h
        rcases List.mem_cons.1 he with rfl | he
        · cases hn
        · exact List.mem_map.2 ⟨e, he, by omega⟩
    rw [hmem]
    by_cases c : id + 1 ∈ numE E
    · obtain ⟨k, hk, hki⟩ := mem_rg c (by omega)
      have h1 := held_rg g.rng hk hki
      have hget := g.get (k + 1) _ (rg_get hk)
      rw [← hki, get_blks, hb] at hget
      have hz : isZ s id = false := by
        unfold isZ
        rw [hb]
        have e2 := Option.some.inj hget
        rw [e2]
        have hpos : 0 < (rg E (k + 1)).l := (g.lies.2.1 _ (rg_memE hk)).2.1
        simp [blkOf]; omega
      rw [h1, hz]
      exact ⟨⟨fun _ => .inl c, fun _ => rfl⟩, fun h => by cases h.2⟩
    · rcases g.zero id _ hb c with e | e
      · have h1 : held s id = none := by unfold held; rw [hb, e]; rfl
        have hz : isZ s id = false := by unfold isZ; rw [hb, e]; rfl
        rw [h1, hz]
        refine ⟨⟨(fun h => by cases h), fun h => ?_⟩, fun h => c h.1⟩
        rcases h with h | h
        · exact absurd h c
        · cases h
      · have h1 : (held s id).isSome = true := by unfold held; rw [hb, e]; rfl
        have hz : isZ s id = true := by unfold isZ; rw [hb, e]; rfl
        rw [h1, hz]
        exact ⟨⟨fun _ => .inr rfl, fun _ => rfl⟩, fun h => c h.1⟩
  have hA : cntA A = ((List.range s.blks.length).filter (fun id => (held s id).isSome)).length := by
    have hmap : A = (List.range s.blks.length).map (fun id => held s id) := by
      apply List.ext_getElem?
      intro i
      rw [List.getElem?_map]
      by_cases c : i < A.length
      · rw [List.getElem?_range (by rw [ha.1]; exact c), Option.map_some, ha.at c, List.getElem?_eq_getElem c]
      · rw [List.getElem?_eq_none (by omega), List.getElem?_eq_none (by rw [List.length_range, ha.1]; omega)]; rfl
    unfold cntA
    conv => lhs; rw [hmap]
    rw [List.filter_map, List.length_map]
    rfl
  have hsplit : ∀ l : List Nat, (∀ id ∈ l, id < s.blks.length) → (l.filter (fun id => (held s id).isSome)).length = (l.filter (fun id => decide (id ∈ E.map (fun e => e.n - 1)))).length + (l.filter (isZ s)).length := by
    intro l
    induction l with
    | nil => intro _; rfl
    | cons a r ih =>
      intro hl
      have hr := ih (fun id h => hl id (List.mem_cons_of_mem _ h))
      obtain ⟨k1, k2⟩ := key a (hl a (List.mem_cons_self ..))
      by_cases c1 : a ∈ E.map (fun e => e.n - 1)
      · have c2 : isZ s a = false := by cases h : isZ s a with | false => rfl | true => exact absurd ⟨c1, h⟩ k2
        have c3 : (held s a).isSome = true := k1.2 (.inl c1)
        rw [List.filter_cons_of_pos (by exact c3), List.filter_cons_of_pos (by exact decide_eq_true c1), List.filter_cons_of_neg (by rw [c2]; exact Bool.false_ne_true)]
        simp only [List.length_cons]; omega
      · cases c2 : isZ s a with
        | true =>
          have c3 : (held s a).isSome = true := k1.2 (.inr c2)
          rw [List.filter_cons_of_pos (by exact c3), List.filter_cons_of_neg (by simpa using c1), List.filter_cons_of_pos c2]
          simp only [List.length_cons]; omega
        | false =>
          have c3 : ¬ (held s a).isSome = true := fun h => by
            rcases k1.1 h with h | h
            · exact c1 h
            · rw [c2] at h; cases h
          rw [List.filter_cons_of_neg (by exact c3), List.filter_cons_of_neg (by simpa using c1), List.filter_cons_of_neg (by rw [c2]; exact Bool.false_ne_true)]
          exact hr
  have hn1 : (E.map (fun e => e.n - 1)).Nodup := by
    have h1 := g.nodup
    have h2 : (E.map Ex.n).Nodup := (List.nodup_cons.1 h1).2
    unfold List.Nodup at h2 ⊢
    rw [List.pairwise_map] at h2 ⊢
    refine List.Pairwise.imp_of_mem ?_ h2
    intro a b ha hb hab e
    have := (g.lies.2.1 a ha).2.2
    have := (g.lies.2.1 b hb).2.2
    omega
  have hin : ∀ id ∈ E.map (fun e => e.n - 1), id < s.blks.length := by
    intro id h
    obtain ⟨e, he, hn⟩ := List.mem_map.1 h
    obtain ⟨i, hi, hie⟩ := List.mem_iff_getElem.1 he
    have h0 := (g.lies.2.1 e he).2.2
    have hget := g.get (i + 1) e (by show E[i]? = _; rw [List.getElem?_eq_getElem hi, hie])
    unfold Sto.get at hget
    rw [if_neg h0] at hget
    have := (List.getElem?_eq_some_iff.1 hget).1
    omega
  have hcnt : ((List.range s.blks.length).filter (fun id => decide (id ∈ E.map (fun e => e.n - 1)))).length = E.length := by
    have hp : ((List.range s.blks.length).filter (fun id => decide (id ∈ E.map (fun e => e.n - 1)))).Perm (E.map (fun e => e.n - 1)) := by
      rw [List.perm_ext_iff_of_nodup (List.Pairwise.filter _ List.nodup_range) hn1]
      intro a
      rw [List.mem_filter, List.mem_range]
      constructor
      · intro h; simpa using h.2
      · intro h; exact ⟨hin a h, decide_eq_true h⟩
    have := hp.length_eq
    rwa [List.length_map] at this
  rw [hA, hsplit _ (fun id h => List.mem_range.1 h), hcnt]
  unfold extL trE zs
  rw [List.length_append, List.length_map, List.length_map]
end Go.Proofs.Ytdafcfmbnlgbfaa.W
