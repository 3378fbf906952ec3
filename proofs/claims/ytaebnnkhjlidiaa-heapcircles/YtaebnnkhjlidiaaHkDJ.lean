import Derived.Test.YtaebnnkhjlidiaaBase4
/- A range over an iterator that lays and changes blocks of its own, and passes some by: the caller says which blocks are its own. -/
namespace Go.Proofs.Ytaebnnkhjlidiaa.W
open Go.ChangeShapes Go.WideShapes Go.RowKit Go.Shelf
set_option linter.unusedVariables false
/-- gf, with lb captured, tells val k for each k below n that is of P, as long as it is asked, where G holds; blocks from B on that are none of D may change between the rounds, and a round leaves them alone -/
def IterE (gf : Nat) (lb : Array Value) (n : Nat) (P : Nat → Bool) (val : Nat → Array Value) (G : World → Prop) : Prop :=
  ∀ (m l B : Nat) (J : Nat → (Nat → Prop) → World → Prop) (X : World → Prop), 1 ≤ m → (∀ i D W, J i D W → G W ∧ B ≤ W.heap.size ∧ ∀ k, D k → k < W.heap.size) →
    (∀ i D W W', J i D W → Upd (fun k => B ≤ k ∧ ¬ D k) W W' → J i D W') → (∀ W W', X W → Upd (fun k => B ≤ k) W W' → X W') → (∀ W, X W → G W) → (∀ i D W, i < n → P i = false → J i D W → J (i + 1) D W) →
    (∀ i (hi : i < n) D W, P i = true → J i D W → YieldAt Fence.wide (m - 1) Try.prog l (val i) W fun e W' => (e = .returned (.bool true) ∧ (∃ D', J (i + 1) D' W' ∧ ∀ k, D' k → D k ∨ W.heap.size ≤ k) ∧ ∀ k, B ≤ k → k < W.heap.size → ¬ D k → W'.heap[k]? = W.heap[k]?) ∨ (e = .returned (.bool false) ∧ X W' ∧ ∀ k, B ≤ k → k < W.heap.size → ¬ D k → W'.heap[k]? = W.heap[k]?)) →
    ∀ D W, W.heap.size = B → J 0 D W → CallsIn Fence.wide m Try.prog gf (#[.func (.yield l) #[] #[]] ++ lb) W fun e W' => (∃ v, e = .returned v) ∧ ((∃ D', J n D' W') ∨ X W')
/-- how the body of a round is left, by its blocks Dk -/
def rndWayE (L D : Nat) (Dk : Nat → Prop) (W : World) (In : World → Prop) (Ix : Code → World → Prop) : Exit → Act → World → Prop
  | .normal, _, W' => (W'.heap[L]? = W.heap[L]? ∧ W'.heap[D]? = W.heap[D]?) ∧ (∀ k, D + 2 ≤ k → k < W.heap.size → ¬ Dk k → W'.heap[k]? = W.heap[k]?) ∧ In W'
  | .ret, _, W' => (W'.heap[L]? = W.heap[L]? ∧ W'.heap[D]? = W.heap[D]?) ∧ (∀ k, D + 2 ≤ k → k < W.heap.size → ¬ Dk k → W'.heap[k]? = W.heap[k]?) ∧ Ix .ret W'
  | .exit id, _, W' => (W'.heap[L]? = W.heap[L]? ∧ W'.heap[D]? = W.heap[D]?) ∧ (∀ k, D + 2 ≤ k → k < W.heap.size → ¬ Dk k → W'.heap[k]? = W.heap[k]?) ∧ Ix (.exit id) W'
  | _, _, _ => False
theorem iterE_law {gf : Nat} {lb : Array Value} {n : Nat} {P : Nat → Bool} {val : Nat → Array Value} {G : World → Prop} (hit : IterE gf lb n P val G) (eg : ∀ args w, (callFunc gf args).run Try.prog w = .ok (.enter gf args) w)
    {g : Operand} {ps : Array Tmp} {assign body : Code} {Q : Exit → Act → World → Prop} {a : Act} {W0 : World} (hg : a.eval g = .func (.func gf) #[] lb)
    (I : Nat → (Nat → Prop) → World → Prop) (Ix : Code → World → Prop) (hL : ∀ i D W, I i D W → G W ∧ ∀ k, D k → k < W.heap.size ∧ k ≠ W0.heap.size ∧ k ≠ W0.heap.size + 1)
    (hI : ∀ i D W W', I i D W → Upd (fun k => W0.heap.size + 1 ≤ k ∧ ¬ D k) W W' → I i D W')
    (hIx : ∀ c W W', Ix c W → Upd (fun k => W0.heap.size + 1 ≤ k) W W' → Ix c W') (hLx : ∀ c W, Ix c W → G W) (D0 : Nat → Prop) (h0 : I 0 D0 W0)
    (hskip : ∀ i D W, i < n → P i = false → I i D W → I (i + 1) D W) (A : Nat → Act) (hsz : ∀ i, (val i).size = ps.size)
    (hassign : ∀ (L i : Nat) (W : World) (K : Act → World → Prop), K (A i) W → assign.wpIn (Fence.wide.inRound L) 7 Try.prog (Exit.then K (fun _ _ _ => False)) { tmps := (ps.zip (val i)).foldl (fun t (p, v) => t.setIfInBounds p v) a.tmps, defers := [] } W)
    (hbody : ∀ (L : Nat) i (hi : i < n) D W, P i = true → L = W0.heap.size + 1 → I i D W → W0.heap.size + 2 ≤ W.heap.size → (∃ r, W.heap[L]? = some (.loop r)) → body.wpIn (Fence.wide.inRound L) 7 Try.prog (rndWayE L W0.heap.size D W (fun W' => ∃ D', I (i + 1) D' W' ∧ ∀ k, D' k → D k ∨ W.heap.size ≤ k) Ix) (A i) W)
    (hdone : ∀ D W, I n D W → W.heap[W0.heap.size]? = some (.deferred (some [])) → Q .normal { a with defers := { target := .collected W0.heap.size, args := #[] } :: a.defers } W)
    (hstop : ∀ c W, Ix c W → W.heap[W0.heap.size]? = some (.deferred (some [])) → c.wp Try.prog Q { a with defers := { target := .collected W0.heap.size, args := #[] } :: a.defers } W) :
    (Code.rangeFunc g ps assign body).wp Try.prog Q a W0 := by
  have hU1 : ∀ (D : Nat → Prop) (W : World) (o : Obj), ¬ D (W0.heap.size + 1) → Upd (fun k => W0.heap.size + 1 ≤ k ∧ ¬ D k) W (W.putObj (W0.heap.size + 1) o) := fun D W o h => upd_put (S := fun k => W0.heap.size + 1 ≤ k ∧ ¬ D k) (L := W0.heap.size + 1) ⟨Nat.le_refl _, h⟩ o
  have hU2 : ∀ (W : World) (o : Obj), Upd (fun k => W0.heap.size + 1 ≤ k) W (W.putObj (W0.heap.size + 1) o) := fun W o => upd_put (S := fun k => W0.heap.size + 1 ≤ k) (L := W0.heap.size + 1) (Nat.le_refl _) o
  refine (wpIn_wide (n := 9)).1 (rf_law hg eg (fun W => ∃ D, I n D W) Ix ?_ ?_ ?_)
  · intro r W1 hr1 hr2 hr3 hr4 hr5 hr6 hW1 hL1
    have hI1 : I 0 D0 W1 := by
      refine hI 0 D0 W0 W1 h0 ?_
      rw [hW1]; exact ((Upd.refl _ W0).alloc _).alloc _
    have hsz1 : W1.heap.size = W0.heap.size + 2 := by rw [hW1]; simp
    have key := hit 8 (W0.heap.size + 1) (W0.heap.size + 2)
      (fun i D W => I i D W ∧ LoopAt W (W0.heap.size + 1) W0.heap.size r ∧ W0.heap.size + 2 ≤ W.heap.size)
      (fun W => ∃ c, Ix c W ∧ LoopAt W (W0.heap.size + 1) W0.heap.size { r with state := .done, pending := some c })
      (by omega) (fun i D W h => ⟨(hL i D W h.1).1, h.2.2, fun k e => ((hL i D W h.1).2 k e).1⟩) ?_ ?_ (fun W h => by obtain ⟨c, h1, _⟩ := h; exact hLx c W h1) (fun i D W hi hp h => ⟨hskip i D W hi hp h.1, h.2⟩) ?_ D0 W1 hsz1 ⟨hI1, hL1, by omega⟩
    · refine key.mono ?_
      rintro e W3 ⟨hv, ⟨D, h1, h2, _⟩ | ⟨c, h1, h2⟩⟩
      · exact ⟨hv, .inl ⟨⟨D, h1⟩, r, h2, by rw [hr1]; simp, hr2⟩⟩
      · exact ⟨hv, .inr ⟨c, h1, _, h2, by simp, rfl⟩⟩
    · rintro i D W W' ⟨h1, h2, h3⟩ hu
      exact ⟨hI i D W W' h1 (hu.mono (fun k e => ⟨by omega, e.2⟩)), h2.kept (hu.block _ (by omega) (fun e => by omega)) (hu.block _ (by omega) (fun e => by omega)), by have := hu.size; omega⟩
    · rintro W W' ⟨c, h1, h2⟩ hu
      have l1 := (Array.getElem?_eq_some_iff.1 h2.lp).1
      exact ⟨c, hIx c W W' h1 (hu.mono (fun k e => by omega)), h2.kept (hu.block _ l1 (by omega)) (hu.block _ (by omega) (by omega))⟩
    · rintro i hi D W hP ⟨hi1, hl1, hs1⟩
      have hargs : (val i).size = r.params.size := by rw [hr4]; exact hsz i
      have nD : ¬ D (W0.heap.size + 1) := fun e => ((hL i D W hi1).2 _ e).2.2 rfl
      refine YieldAt.mono (yield_law (Rn := fun W' => (∃ D', I (i + 1) D' W' ∧ ∀ k, D' k → D k ∨ W.heap.size ≤ k) ∧ LoopAt W' (W0.heap.size + 1) W0.heap.size r ∧ W0.heap.size + 2 ≤ W'.heap.size ∧ ∀ k, W0.heap.size + 2 ≤ k → k < W.heap.size → ¬ D k → W'.heap[k]? = W.heap[k]?) (Rx := fun c W' => Ix c W' ∧ LoopAt W' (W0.heap.size + 1) W0.heap.size { r with state := .done, pending := some c } ∧ ∀ k, W0.heap.size + 2 ≤ k → k < W.heap.size → ¬ D k → W'.heap[k]? = W.heap[k]?) hl1 hr1 hargs (A i) ?_ ?_) ?_
      · intro K hK
        rw [hr5, hr4, hr3]
        exact hassign _ i W K hK
      · intro W2 hW2 hl2
        have hI2 : I i D W2 := by rw [hW2]; exact hI i D W _ hi1 (hU1 D W _ nD)
        have hs2 : W0.heap.size + 2 ≤ W2.heap.size := by rw [hW2]; simpa using hs1
        have hz2 : W2.heap.size = W.heap.size := by rw [hW2]; simp
        have hk2 : ∀ k, W0.heap.size + 2 ≤ k → W2.heap[k]? = W.heap[k]? := fun k hk => by rw [hW2]; exact World.putObj_heap_other (by omega)
        have hbd := hbody _ i hi D W2 hP rfl hI2 hs2 ⟨_, hl2.lp⟩
        rw [← hr6] at hbd
        refine wpIn_mono hbd ?_
        intro e a3 W3 hp
        have put : ∀ q : Loop, (W3.heap[W0.heap.size + 1]? = W2.heap[W0.heap.size + 1]? ∧ W3.heap[W0.heap.size]? = W2.heap[W0.heap.size]?) → LoopAt W3 (W0.heap.size + 1) W0.heap.size { r with state := .busy } ∧ LoopAt (W3.putObj (W0.heap.size + 1) (.loop q)) (W0.heap.size + 1) W0.heap.size q ∧ W0.heap.size + 2 ≤ (W3.putObj (W0.heap.size + 1) (.loop q)).heap.size := by
          rintro q ⟨e1, e2⟩
          have hl3 := hl2.kept e1 e2
          refine ⟨hl3, hl3.put q, ?_⟩
          have := (Array.getElem?_eq_some_iff.1 hl3.lp).1
          simp
          rcases Nat.lt_or_ge (W0.heap.size + 1) W3.heap.size with h | h <;> omega
        have same : ∀ q : Loop, (∀ k, W0.heap.size + 2 ≤ k → k < W2.heap.size → ¬ D k → W3.heap[k]? = W2.heap[k]?) → ∀ k, W0.heap.size + 2 ≤ k → k < W.heap.size → ¬ D k → (W3.putObj (W0.heap.size + 1) (.loop q)).heap[k]? = W.heap[k]? := fun q h k h1 h2 h3 => (World.putObj_heap_other (by omega)).trans ((h k h1 (by omega) h3).trans (hk2 k h1))
        cases e with
        | normal =>
          obtain ⟨hk, hkp, D', hin, hD'⟩ := hp
          obtain ⟨p1, p2, p4⟩ := put { r with state := .ready, pending := none } hk
          have er : ({ r with state := .ready, pending := none } : Loop) = r := by cases r; simp_all
          have nD' : ¬ D' (W0.heap.size + 1) := fun e => ((hL _ D' W3 hin).2 _ e).2.2 rfl
          refine ⟨p1, ⟨D', hI _ D' W3 _ hin (hU1 D' W3 _ nD'), fun k e => by have := hD' k e; rwa [hz2] at this⟩, ?_, p4, same _ hkp⟩
          rw [er] at p2 ⊢
          exact p2
        | ret =>
          obtain ⟨hk, hkp, hin⟩ := hp
          obtain ⟨p1, p2, p4⟩ := put { r with state := .done, pending := some .ret } hk
          exact ⟨p1, hIx _ W3 _ hin (hU2 W3 _), p2, same _ hkp⟩
        | exit id =>
          obtain ⟨hk, hkp, hin⟩ := hp
          obtain ⟨p1, p2, p4⟩ := put { r with state := .done, pending := some (.exit id) } hk
          exact ⟨p1, hIx _ W3 _ hin (hU2 W3 _), p2, same _ hkp⟩
        | goto t => exact hp.elim
        | panic ch => exact hp.elim
        | outgrown => exact hp.elim
      · rintro e W' (⟨rfl, ⟨D', h1, h2⟩, h3, h4, h5⟩ | ⟨rfl, c, h1, h2, h3⟩)
        · exact .inl ⟨rfl, ⟨D', ⟨h1, h3, h4⟩, h2⟩, h5⟩
        · exact .inr ⟨rfl, ⟨c, h1, h2⟩, h3⟩
  · intro W3 q hd hl
    obtain ⟨D, hd⟩ := hd
    have nD : ¬ D (W0.heap.size + 1) := fun e => ((hL _ D W3 hd).2 _ e).2.2 rfl
    exact hdone D _ (hI _ D W3 _ hd (hU1 D W3 _ nD)) hl.defs
  · intro W3 q c hs hl
    exact wpIn_wide.2 (hstop c _ (hIx _ W3 _ hs (hU2 W3 _)) hl.defs)
end Go.Proofs.Ytaebnnkhjlidiaa.W
