import Derived.Test.YtdafcfmbnlgbfaaS7eJ
/- A range over Extents whose rounds look at nothing but a count. -/
namespace Go.Proofs.Ytdafcfmbnlgbfaa.W
open Go.ChangeShapes Go.WideShapes Go.RowKit Go.Shelf
set_option linter.unusedVariables false
def oneAct (p1 : Nat) (a : Act) (x : Value) : Act := { tmps := a.tmps.setIfInBounds p1 x, defers := [] }
/-- the value of an extent -/
def Tr.agg (t : Tr) : Value := .agg #[.int .i64 (t.i : Nat), .int .i64 (t.p : Nat), .int .i64 (t.l : Nat)]
theorem ext_law {g : Operand} {p1 : Nat} {body : Code} {Q : Exit → Act → World → Prop} {a : Act} {W0 : World} {Bc sb : Nat} (l : List Tr) (hg : a.eval g = .func (.func 26) #[] #[.pointer (some ⟨Bc, 0, none⟩)])
    (I : Nat → (Nat → Prop) → World → Prop) (Ix : Code → World → Prop) (hL : ∀ i D W, I i D W → (W.cell? ⟨Bc, 0, none⟩ = some (.pointer (some ⟨sb, 0, none⟩)) ∧ Tells W sb l) ∧ ∀ k, D k → k < W.heap.size ∧ k ≠ W0.heap.size ∧ k ≠ W0.heap.size + 1)
    (hI : ∀ i D W W', I i D W → Upd (fun k => W0.heap.size + 1 ≤ k ∧ ¬ D k) W W' → I i D W')
    (hIx : ∀ c W W', Ix c W → Upd (fun k => W0.heap.size + 1 ≤ k) W W' → Ix c W') (hLx : ∀ c W, Ix c W → W.cell? ⟨Bc, 0, none⟩ = some (.pointer (some ⟨sb, 0, none⟩)) ∧ Tells W sb l) (D0 : Nat → Prop) (h0 : I 0 D0 W0)
    (hbody : ∀ (L : Nat) i (hi : i < l.length) D W, L = W0.heap.size + 1 → I i D W → W0.heap.size + 2 ≤ W.heap.size → (∃ r, W.heap[L]? = some (.loop r)) → body.wpIn (Fence.wide.inRound L) 7 Try.prog (rndWayE L W0.heap.size D W (fun W' => ∃ D', I (i + 1) D' W' ∧ ∀ k, D' k → D k ∨ W.heap.size ≤ k) Ix) (oneAct p1 a (l.getD i noTr).agg) W)
    (hdone : ∀ D W, I l.length D W → W.heap[W0.heap.size]? = some (.deferred (some [])) → Q .normal { a with defers := { target := .collected W0.heap.size, args := #[] } :: a.defers } W)
    (hstop : ∀ c W, Ix c W → W.heap[W0.heap.size]? = some (.deferred (some [])) → c.wp Try.prog Q { a with defers := { target := .collected W0.heap.size, args := #[] } :: a.defers } W) :
    (Code.rangeFunc g #[p1] Code.skip body).wp Try.prog Q a W0 := by
  refine iterE_law (ext_iter Bc sb l) eg_ext hg I Ix hL hI hIx hLx D0 h0 (fun i D W hi hp => by cases hp) (fun i => oneAct p1 a (l.getD i noTr).agg) (fun i => rfl) ?_ (fun L i hi D W _ => hbody L i hi D W) hdone hstop
  intro L i W K hK
  have e : (#[p1].zip (l.getD i noTr).val).foldl (fun t (p, v) => t.setIfInBounds p v) a.tmps = a.tmps.setIfInBounds p1 (l.getD i noTr).agg := by
    show Array.foldl _ a.tmps (#[p1].zip #[(l.getD i noTr).agg]) = _
    exact zip_one _ _ _
  rw [e]
  gi_wp2
  exact hK
theorem upd_more' {S1 S2 : Nat → Prop} {a b c : World} (h1 : Upd S1 a b) (h2 : Upd S2 b c) (h : ∀ k, S2 k → a.heap.size ≤ k) : Upd S1 a c :=
  ⟨h2.os.trans h1.os, h2.tape.trans h1.tape, h2.output.trans h1.output, Nat.le_trans h1.size h2.size, fun k hk hn => (h2.block k (Nat.lt_of_lt_of_le hk h1.size) (fun e => by have := h k e; omega)).trans (h1.block k hk hn)⟩
theorem upd_grown {W W' : World} {b : Nat} (hg : W.grownBy W' (some b)) : Upd (fun k => k = b) W W' := (Upd.refl _ W).grown hg (fun k e => .inl (by cases e; rfl))
theorem sameKey_self (z : Int) : (kI z).sameKey (kI z) = true := by simp [kI, Lit.sameKey]
theorem sameKey_int {a b : Int} (h : a ≠ b) : (kI a).sameKey (kI b) = false := Maps.sameKey_ne (kI_ne h)
/-- one more has been counted -/
theorem vis_step {A : List (Option (List Nat))} {left : Lit → Bool} {id : Nat} {x : List Nat} (hx : A[id]? = some (some x)) (hl : left (kI (id : Int)) = true) : visF (fun i => !(left (kI (i : Int)) && !(kI (i : Int)).sameKey (kI (id : Int)))) A 0 = visF (fun i => !left (kI (i : Int))) A 0 + up8N x.length := by
  refine visF_one _ _ id A 0 x hx ?_ ?_ ?_
  · simp [hl]
  · simp [sameKey_self]
  · intro j hj
    have : (j : Int) ≠ (id : Int) := by omega
    rw [sameKey_int this]
    simp
theorem vis_start {A : List (Option (List Nat))} {D : Dm} (m : Mp A D) : visF (fun i => !Maps.has D (kI (i : Int))) A 0 = 0 := by
  refine visF_none _ A 0 ?_
  intro j x hx
  rw [Nat.zero_add, (m.has _).2 ⟨j, x, rfl, hx⟩]
  rfl
theorem vis_end {A : List (Option (List Nat))} {left : Lit → Bool} (h : ∀ kl, left kl = false) : visF (fun i => !left (kI (i : Int))) A 0 = sumA A := visF_all _ A 0 (fun j => by rw [h]; rfl)
theorem vis_le (f : Nat → Bool) : ∀ (A : List (Option (List Nat))) (i : Nat), visF f A i ≤ sumA A
  | [], _ => Nat.le_refl _
  | x :: r, i => by
    have := vis_le f r (i + 1)
    show (if f i then lenA x else 0) + visF f r (i + 1) ≤ _
    rw [sumA_cons]
    split <;> omega
end Go.Proofs.Ytdafcfmbnlgbfaa.W
