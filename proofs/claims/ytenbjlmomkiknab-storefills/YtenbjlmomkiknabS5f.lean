/- A range over a function, for whatever iterator: the loop's record, a round, the statement. -/
import Derived.Test.YtenbjlmomkiknabS5a
import Derived.RangeFuncNested
import Derived.RangeFuncBound
import Derived.RangeFuncCalls
import Derived.RangeFuncLeaves
import Derived.Shelf.Abstract
import Derived.Shelf.RegionOpen
import Derived.WalkKit
import Derived.OwnWalkIn
import Derived.TacticsInMore
import Derived.LoopNIn
import Derived.LoopIn
namespace Go.Proofs.Ytenbjlmomkiknab.W
open Go.ChangeShapes Go.WideShapes Go.RowKit Go.Shelf
set_option linter.unusedVariables false

/-- the record of a loop over a function, and the block for its rounds' deferred calls -/
structure LoopAt (W : World) (L D : Nat) (r : Loop) : Prop where
  lp : W.heap[L]? = some (.loop r)
  defs : W.heap[D]? = some (.deferred (some []))
theorem LoopAt.kept {W W' : World} {L D : Nat} {r : Loop} (h : LoopAt W L D r) (h1 : W'.heap[L]? = W.heap[L]?) (h2 : W'.heap[D]? = W.heap[D]?) : LoopAt W' L D r := ⟨h1.trans h.lp, h2.trans h.defs⟩
theorem LoopAt.put {W : World} {L D : Nat} {r : Loop} (h : LoopAt W L D r) (q : Loop) : LoopAt (W.putObj L (.loop q)) L D q := by
  refine ⟨World.putObj_heap_same (Array.getElem?_eq_some_iff.1 h.lp).1, ?_⟩
  rw [World.putObj_heap_other (by rintro rfl; have := h.lp; rw [h.defs] at this; cases this)]
  exact h.defs
theorem Upd.putObj {S : Nat → Prop} {a b : World} (h : Upd S a b) {L : Nat} (hp : Nx S a b L) (o : Obj) : Upd S a (b.putObj L o) :=
  h.trans ⟨rfl, rfl, rfl, by simp, fun k _ hn => World.putObj_heap_other (by rintro rfl; exact hn hp)⟩

/-- how a round's body is left -/
def bodyWay (L D : Nat) (r : Loop) (Rn : World → Prop) (Rx : Code → World → Prop) : Exit → Act → World → Prop
  | .normal, _, W => LoopAt W L D { r with state := .busy } ∧ Rn (W.putObj L (.loop { r with state := .ready, pending := none }))
  | .ret, _, W => LoopAt W L D { r with state := .busy } ∧ Rx .ret (W.putObj L (.loop { r with state := .done, pending := some .ret }))
  | .exit id, _, W => LoopAt W L D { r with state := .busy } ∧ Rx (.exit id) (W.putObj L (.loop { r with state := .done, pending := some (.exit id) }))
  | _, _, _ => False
/-- a round -/
theorem yield_law {P : Program} {m L D : Nat} {r : Loop} {args : Array Value} {W : World} {Rn : World → Prop} {Rx : Code → World → Prop} (hl : LoopAt W L D r) (hr : r.state = .ready) (hs : args.size = r.params.size) (a1 : Act)
    (hassign : ∀ K : Act → World → Prop, K a1 W → r.assign.wpIn (Fence.wide.inRound L) m P (Exit.then K (fun _ _ _ => False)) { tmps := (r.params.zip args).foldl (fun t (p, v) => t.setIfInBounds p v) r.tmps, defers := [] } W)
    (hbody : ∀ W2, W2 = W.putObj L (.loop { r with state := .busy }) → LoopAt W2 L D { r with state := .busy } → r.body.wpIn (Fence.wide.inRound L) m P (bodyWay L D r Rn Rx) a1 W2) :
    YieldAt Fence.wide m P L args W (fun e W' => (e = .returned (.bool true) ∧ Rn W') ∨ (e = .returned (.bool false) ∧ ∃ c, Rx c W')) := by
  have hy := run_yield (P := P) (args := args) hl.lp hs
  refine ⟨r.fn, _, r.assign, r.body, hy, roundIn_of_wpIn (F := Fence.wide) trivial (hassign _ ⟨_, run_beginRound hl.lp hr, ?_⟩)⟩
  refine wpIn_mono (hbody _ rfl (hl.put _)) ?_
  rintro e a3 W3 hp
  cases e with
  | normal =>
    obtain ⟨h3, h4⟩ := hp
    exact ⟨_, _, run_endRound none h3.lp, .inl ⟨rfl, h4⟩⟩
  | ret =>
    obtain ⟨h3, h4⟩ := hp
    exact ⟨_, _, run_endRound (some .ret) h3.lp, .inr ⟨rfl, _, h4⟩⟩
  | exit id =>
    obtain ⟨h3, h4⟩ := hp
    exact ⟨_, _, run_endRound (some (.exit id)) h3.lp, .inr ⟨rfl, _, h4⟩⟩
  | goto t => exact hp.elim
  | panic ch => exact hp.elim
  | outgrown => exact hp.elim
/-- the statement -/
theorem rf_law {P : Program} {n : Nat} {g : Operand} {ps : Array Tmp} {assign body : Code} {Q : Exit → Act → World → Prop} {a : Act} {w : World} {gf : Nat} {lb : Array Value} (hg : a.eval g = .func (.func gf) #[] lb) (eg : ∀ args w, (callFunc gf args).run P w = .ok (.enter gf args) w)
    (Dn : World → Prop) (Sp : Code → World → Prop)
    (hcall : ∀ (r : Loop) (W1 : World), r.state = .ready → r.pending = none → r.tmps = a.tmps → r.params = ps → r.assign = assign → r.body = body → W1 = (w.alloc (.deferred (some []))).alloc (.loop r) → LoopAt W1 (w.heap.size + 1) w.heap.size r →
      CallsIn Fence.wide (n - 1) P gf (#[.func (.yield (w.heap.size + 1)) #[] #[]] ++ lb) W1 fun e W3 => (∃ v, e = .returned v) ∧ ((Dn W3 ∧ ∃ q : Loop, LoopAt W3 (w.heap.size + 1) w.heap.size q ∧ q.state ≠ .busy ∧ q.pending = none) ∨ (∃ c, Sp c W3 ∧ ∃ q : Loop, LoopAt W3 (w.heap.size + 1) w.heap.size q ∧ q.state ≠ .busy ∧ q.pending = some c)))
    (hdone : ∀ (W3 : World) (q : Loop), Dn W3 → LoopAt (W3.putObj (w.heap.size + 1) (.loop q)) (w.heap.size + 1) w.heap.size q → Q .normal { a with defers := { target := .collected w.heap.size, args := #[] } :: a.defers } (W3.putObj (w.heap.size + 1) (.loop q)))
    (hstop : ∀ (W3 : World) (q : Loop) (c : Code), Sp c W3 → LoopAt (W3.putObj (w.heap.size + 1) (.loop q)) (w.heap.size + 1) w.heap.size q → c.wpIn Fence.wide n P Q { a with defers := { target := .collected w.heap.size, args := #[] } :: a.defers } (W3.putObj (w.heap.size + 1) (.loop q))) :
    (Code.rangeFunc g ps assign body).wpIn Fence.wide n P Q a w := by
  refine wpIn_rangeFunc ?_
  intro fn hfn
  obtain ⟨r, hr⟩ : ∃ r : Loop, r = { state := .ready, pending := none, fn, tmps := a.tmps, params := ps, assign, body, defers := w.heap.size } := ⟨_, rfl⟩
  obtain ⟨W1, hW1⟩ : ∃ W1, W1 = (w.alloc (.deferred (some []))).alloc (.loop r) := ⟨_, rfl⟩
  have hL1 : W1.heap[w.heap.size + 1]? = some (.loop r) := by
    rw [hW1]; have := World.alloc_heap_new (w.alloc (.deferred (some []))) (.loop r); rwa [World.size_alloc] at this
  have hK1 : W1.heap[w.heap.size]? = some (.deferred (some [])) := by
    rw [hW1]; exact (Below.heap_alloc _ _ _ (by simp)).trans (World.alloc_heap_new w _)
  refine ⟨w.heap.size + 1, [{ target := .collected w.heap.size, args := #[] }], W1, { target := .fn (.func gf) lb, args := #[.func (.yield (w.heap.size + 1)) #[] #[]] }, W1, gf, #[.func (.yield (w.heap.size + 1)) #[] #[]] ++ lb, W1, ?_, ?_, ?_, ?_, fun h => by simp [Fence.wide] at h, ?_⟩
  · rw [hW1, hr]; exact run_enterLoop_outer _ _ _ _ _
  · simp only [resolve, hg]
    simp [go_sem]
  · intro f' hf'; trivial
  · simp [invoke, go_sem, eg]
  · refine (hcall r W1 (by rw [hr]) (by rw [hr]) (by rw [hr]) (by rw [hr]) (by rw [hr]) (by rw [hr]) hW1 ⟨hL1, hK1⟩).mono ?_
    rintro e W3 ⟨⟨v, rfl⟩, ⟨hd, q, hq, hs, hp⟩ | ⟨c, hd, q, hq, hs, hp⟩⟩
    · refine ⟨none, _, by rw [← hp]; exact run_endLoop hq.lp hs, ?_⟩
      exact hdone W3 _ hd (hq.put _)
    · refine ⟨some c, _, by rw [← hp]; exact run_endLoop hq.lp hs, ?_⟩
      exact hstop W3 _ c hd (hq.put _)
end Go.Proofs.Ytenbjlmomkiknab.W
