/- Ranges over functions, as stages 5 and 6 have them, in a namespace of their own. -/
import Derived.Test.YtdoojooepkdlhaaDoorProg
import Derived.Below
import Derived.BigQuiet
import Derived.Deep.QuietTactic
import Derived.KernelRfl
import Derived.Laws.BitsAllLaws
import Derived.Laws.OwnMore
import Derived.LoopIn
import Derived.LoopNIn
import Derived.OwnWalkIn
import Derived.RangeFuncBound
import Derived.RangeFuncCalls
import Derived.RangeFuncLeaves
import Derived.RangeFuncNested
import Derived.Shelf.Abstract
import Derived.Shelf.RegionOpen
import Derived.TacticsInMore
import Derived.WalkKit
import Derived.WalkLawsBesides
namespace Go.Proofs.YtdoojooepkdlhaaDoor.W.It
open Go.ChangeShapes Go.WideShapes Go.RowKit Go.Shelf
set_option linter.unusedVariables false
/-- what a call may change: of what was there, the blocks of S -/
structure Upd (S : Nat → Prop) (W W' : World) : Prop where
  os : W'.os = W.os
  tape : W'.tape = W.tape
  output : W'.output = W.output
  size : W.heap.size ≤ W'.heap.size
  block : ∀ k, k < W.heap.size → ¬ S k → W'.heap[k]? = W.heap[k]?
/-- S, and what was laid since -/
def Nx (S : Nat → Prop) (W W' : World) : Nat → Prop := fun k => S k ∨ (W.heap.size ≤ k ∧ k < W'.heap.size)

theorem Nx.on {S : Nat → Prop} {a b c : World} {k : Nat} (h : Nx S a b k) (hs : b.heap.size ≤ c.heap.size) : Nx S a c k := h.imp id (fun g => ⟨g.1, Nat.lt_of_lt_of_le g.2 hs⟩)
theorem Upd.refl (S : Nat → Prop) (W : World) : Upd S W W := ⟨rfl, rfl, rfl, Nat.le_refl _, fun _ _ _ => rfl⟩
theorem Upd.trans {S : Nat → Prop} {a b c : World} (h : Upd S a b) (k : Upd (Nx S a b) b c) : Upd S a c :=
  ⟨k.os.trans h.os, k.tape.trans h.tape, k.output.trans h.output, Nat.le_trans h.size k.size, fun i hi hn => (k.block i (Nat.lt_of_lt_of_le hi h.size) (fun g => g.elim hn (fun g => by omega))).trans (h.block i hi hn)⟩
theorem Upd.mono {S T : Nat → Prop} {a b : World} (h : Upd S a b) (hs : ∀ k, S k → T k) : Upd T a b := ⟨h.os, h.tape, h.output, h.size, fun k hk hn => h.block k hk (fun g => hn (hs k g))⟩
theorem Upd.trans' {S : Nat → Prop} {a b c : World} (h : Upd S a b) (k : Upd S b c) : Upd S a c := h.trans (k.mono fun _ g => .inl g)
theorem Upd.below {S : Nat → Prop} {a b : World} (h : Upd S a b) {n : Nat} (hn : n ≤ a.heap.size) (hs : ∀ k, S k → n ≤ k) : Below n a b :=
  ⟨h.os, h.tape, h.output, h.size, fun k hk => h.block k (by omega) (fun g => by have := hs k g; omega)⟩
theorem Upd.of_below {S : Nat → Prop} {a b : World} (h : Below a.heap.size a b) : Upd S a b := ⟨h.os, h.tape, h.output, h.size, fun k hk _ => h.block k hk⟩
theorem Upd.drewN {S : Nat → Prop} {a b : World} (h : Upd S a b) (n : Nat) : Upd S a (b.drewN n) := ⟨h.os, h.tape, h.output, h.size, h.block⟩
theorem Upd.drew {S : Nat → Prop} {a b : World} (h : Upd S a b) : Upd S a b.drew := ⟨h.os, h.tape, h.output, h.size, h.block⟩
theorem Upd.alloc {S : Nat → Prop} {a b : World} (h : Upd S a b) (o : Obj) : Upd S a (b.alloc o) :=
  h.trans' ⟨rfl, rfl, rfl, by simp, fun k hk _ => Below.heap_alloc _ _ _ hk⟩
theorem Upd.setCell {S : Nat → Prop} {a b : World} (h : Upd S a b) {p : Addr} (hp : Nx S a b p.block) (u : Value) : Upd S a (b.setCell p u) :=
  h.trans ⟨rfl, rfl, rfl, by simp [World.setCell], fun k _ hn => Below.heap_setCell _ _ _ _ (by rintro rfl; exact hn hp)⟩
theorem Upd.grown {S : Nat → Prop} {a b c : World} {row : Option Nat} (h : Upd S a b) (hg : b.grownBy c row) (hr : ∀ k, row = some k → Nx S a b k) : Upd S a c :=
  h.trans ⟨hg.os, hg.tape, hg.output, hg.size, fun k hk hn => hg.block k hk (by rintro e; exact hn (hr k e.symm))⟩

/-- the record of a loop over a function, and the block for its rounds' deferred calls -/
structure LoopAt (W : World) (L D : Nat) (r : Loop) : Prop where
  lp : W.heap[L]? = some (.loop r)
  defs : W.heap[D]? = some (.deferred (some []))
theorem LoopAt.kept {W W' : World} {L D : Nat} {r : Loop} (h : LoopAt W L D r) (h1 : W'.heap[L]? = W.heap[L]?) (h2 : W'.heap[D]? = W.heap[D]?) : LoopAt W' L D r := ⟨h1.trans h.lp, h2.trans h.defs⟩
theorem LoopAt.put {W : World} {L D : Nat} {r : Loop} (h : LoopAt W L D r) (q : Loop) : LoopAt (W.putObj L (.loop q)) L D q := by
  refine ⟨World.putObj_heap_same (Array.getElem?_eq_some_iff.1 h.lp).1, ?_⟩
  rw [World.putObj_heap_other (by rintro rfl; have := h.lp; rw [h.defs] at this; cases this)]
  exact h.defs
theorem Upd.putObj {S : Nat → Prop} {a b : World} (h : Upd S a b) {L : Nat} (hp : Nx S a b L) (o : Obj) : Upd S a (b.putObj L o) :=
  h.trans ⟨rfl, rfl, rfl, by simp, fun k _ hn => World.putObj_heap_other (by rintro rfl; exact hn hp)⟩

/-- how a round's body is left -/
def bodyWay (L D : Nat) (r : Loop) (Rn : World → Prop) (Rx : Code → World → Prop) : Exit → Act → World → Prop
  | .normal, _, W => LoopAt W L D { r with state := .busy } ∧ Rn (W.putObj L (.loop { r with state := .ready, pending := none }))
  | .ret, _, W => LoopAt W L D { r with state := .busy } ∧ Rx .ret (W.putObj L (.loop { r with state := .done, pending := some .ret }))
  | .exit id, _, W => LoopAt W L D { r with state := .busy } ∧ Rx (.exit id) (W.putObj L (.loop { r with state := .done, pending := some (.exit id) }))
  | _, _, _ => False
/-- a round -/
theorem yield_law {P : Program} {m L D : Nat} {r : Loop} {args : Array Value} {W : World} {Rn : World → Prop} {Rx : Code → World → Prop} (hl : LoopAt W L D r) (hr : r.state = .ready) (hs : args.size = r.params.size) (a1 : Act)
    (hassign : ∀ K : Act → World → Prop, K a1 W → r.assign.wpIn (Fence.wide.inRound L) m P (Exit.then K (fun _ _ _ => False)) { tmps := (r.params.zip args).foldl (fun t (p, v) => t.setIfInBounds p v) r.tmps, defers := [] } W)
    (hbody : ∀ W2, W2 = W.putObj L (.loop { r with state := .busy }) → LoopAt W2 L D { r with state := .busy } → r.body.wpIn (Fence.wide.inRound L) m P (bodyWay L D r Rn Rx) a1 W2) :
    YieldAt Fence.wide m P L args W (fun e W' => (e = .returned (.bool true) ∧ Rn W') ∨ (e = .returned (.bool false) ∧ ∃ c, Rx c W')) := by
  have hy := run_yield (P := P) (args := args) hl.lp hs
  refine ⟨r.fn, _, r.assign, r.body, hy, roundIn_of_wpIn (F := Fence.wide) trivial (hassign _ ⟨_, run_beginRound hl.lp hr, ?_⟩)⟩
  refine wpIn_mono (hbody _ rfl (hl.put _)) ?_
  rintro e a3 W3 hp
  cases e with
  | normal =>
    obtain ⟨h3, h4⟩ := hp
    exact ⟨_, _, run_endRound none h3.lp, .inl ⟨rfl, h4⟩⟩
  | ret =>
    obtain ⟨h3, h4⟩ := hp
    exact ⟨_, _, run_endRound (some .ret) h3.lp, .inr ⟨rfl, _, h4⟩⟩
  | exit id =>
    obtain ⟨h3, h4⟩ := hp
    exact ⟨_, _, run_endRound (some (.exit id)) h3.lp, .inr ⟨rfl, _, h4⟩⟩
  | goto t => exact hp.elim
  | panic ch => exact hp.elim
  | outgrown => exact hp.elim
/-- the statement -/
theorem rf_law {P : Program} {n : Nat} {g : Operand} {ps : Array Tmp} {assign body : Code} {Q : Exit → Act → World → Prop} {a : Act} {w : World} {gf : Nat} {lb : Array Value} (hg : a.eval g = .func (.func gf) #[] lb) (eg : ∀ args w, (callFunc gf args).run P w = .ok (.enter gf args) w)
    (Dn : World → Prop) (Sp : Code → World → Prop)
    (hcall : ∀ (r : Loop) (W1 : World), r.state = .ready → r.pending = none → r.tmps = a.tmps → r.params = ps → r.assign = assign → r.body = body → W1 = (w.alloc (.deferred (some []))).alloc (.loop r) → LoopAt W1 (w.heap.size + 1) w.heap.size r →
      CallsIn Fence.wide (n - 1) P gf (#[.func (.yield (w.heap.size + 1)) #[] #[]] ++ lb) W1 fun e W3 => (∃ v, e = .returned v) ∧ ((Dn W3 ∧ ∃ q : Loop, LoopAt W3 (w.heap.size + 1) w.heap.size q ∧ q.state ≠ .busy ∧ q.pending = none) ∨ (∃ c, Sp c W3 ∧ ∃ q : Loop, LoopAt W3 (w.heap.size + 1) w.heap.size q ∧ q.state ≠ .busy ∧ q.pending = some c)))
    (hdone : ∀ (W3 : World) (q : Loop), Dn W3 → LoopAt (W3.putObj (w.heap.size + 1) (.loop q)) (w.heap.size + 1) w.heap.size q → Q .normal { a with defers := { target := .collected w.heap.size, args := #[] } :: a.defers } (W3.putObj (w.heap.size + 1) (.loop q)))
    (hstop : ∀ (W3 : World) (q : Loop) (c : Code), Sp c W3 → LoopAt (W3.putObj (w.heap.size + 1) (.loop q)) (w.heap.size + 1) w.heap.size q → c.wpIn Fence.wide n P Q { a with defers := { target := .collected w.heap.size, args := #[] } :: a.defers } (W3.putObj (w.heap.size + 1) (.loop q))) :
    (Code.rangeFunc g ps assign body).wpIn Fence.wide n P Q a w := by
  refine wpIn_rangeFunc ?_
  intro fn hfn
  obtain ⟨r, hr⟩ : ∃ r : Loop, r = { state := .ready, pending := none, fn, tmps := a.tmps, params := ps, assign, body, defers := w.heap.size } := ⟨_, rfl⟩
  obtain ⟨W1, hW1⟩ : ∃ W1, W1 = (w.alloc (.deferred (some []))).alloc (.loop r) := ⟨_, rfl⟩
  have hL1 : W1.heap[w.heap.size + 1]? = some (.loop r) := by
    rw [hW1]; have := World.alloc_heap_new (w.alloc (.deferred (some []))) (.loop r); rwa [World.size_alloc] at this
  have hK1 : W1.heap[w.heap.size]? = some (.deferred (some [])) := by
    rw [hW1]; exact (Below.heap_alloc _ _ _ (by simp)).trans (World.alloc_heap_new w _)
  refine ⟨w.heap.size + 1, [{ target := .collected w.heap.size, args := #[] }], W1, { target := .fn (.func gf) lb, args := #[.func (.yield (w.heap.size + 1)) #[] #[]] }, W1, gf, #[.func (.yield (w.heap.size + 1)) #[] #[]] ++ lb, W1, ?_, ?_, ?_, ?_, fun h => by simp [Fence.wide] at h, ?_⟩
  · rw [hW1, hr]; exact run_enterLoop_outer _ _ _ _ _
  · simp only [resolve, hg]
    simp [go_sem]
  · intro f' hf'; trivial
  · simp [invoke, go_sem, eg]
  · refine (hcall r W1 (by rw [hr]) (by rw [hr]) (by rw [hr]) (by rw [hr]) (by rw [hr]) (by rw [hr]) hW1 ⟨hL1, hK1⟩).mono ?_
    rintro e W3 ⟨⟨v, rfl⟩, ⟨hd, q, hq, hs, hp⟩ | ⟨c, hd, q, hq, hs, hp⟩⟩
    · refine ⟨none, _, by rw [← hp]; exact run_endLoop hq.lp hs, ?_⟩
      exact hdone W3 _ hd (hq.put _)
    · refine ⟨some c, _, by rw [← hp]; exact run_endLoop hq.lp hs, ?_⟩
      exact hstop W3 _ c hd (hq.put _)
theorem zip_one (t : Array Value) (pt : Nat) (v : Value) : Array.foldl (fun (t : Array Value) (x : Tmp × Value) => match x with | (p, v) => t.setIfInBounds p v) t (#[pt].zip #[v]) = t.setIfInBounds pt v := by simp
theorem upd_put {W : World} {S : Nat → Prop} {L : Nat} (hL : S L) (o : Obj) : Upd S W (W.putObj L o) := (Upd.refl S W).putObj (.inl hL) o
theorem below_cell {W W' : World} {p : Addr} {v : Value} (hb : Below W.heap.size W W') (h : W.cell? p = some v) : W'.cell? p = some v := by
  rcases Nat.lt_or_ge p.block W.heap.size with c | c
  · rw [hb.cell c]; exact h
  · exfalso
    have e : W.heap[p.block]? = none := Array.getElem?_eq_none c
    simp [World.cell?, e] at h
/-- the function gf, with lb captured, yields vals, as long as it is asked, where G holds; beyond that it only lays blocks -/
def Iter (gf : Nat) (lb : Array Value) (vals : List (Array Value)) (G : Nat → World → Prop) : Prop :=
  ∀ (n l : Nat) (J : Nat → World → Prop) (X : World → Prop), 1 ≤ n → (∀ i W, J i W → G i W) → (∀ i W W', J i W → Below W.heap.size W W' → J i W') →
    (∀ i (hi : i < vals.length) W, J i W → YieldAt Fence.wide (n - 1) Tryd.prog l vals[i] W fun e W' => (e = .returned (.bool true) ∧ J (i + 1) W') ∨ (e = .returned (.bool false) ∧ X W')) →
    ∀ W, J 0 W → CallsIn Fence.wide n Tryd.prog gf (#[.func (.yield l) #[] #[]] ++ lb) W fun e W' => (∃ v, e = .returned v) ∧ (J vals.length W' ∨ X W')
/-- how the body of a round is left -/
def rndWay (L D : Nat) (W : World) (In : World → Prop) (Ix : Code → World → Prop) : Exit → Act → World → Prop
  | .normal, _, W' => (W'.heap[L]? = W.heap[L]? ∧ W'.heap[D]? = W.heap[D]?) ∧ In W'
  | .ret, _, W' => (W'.heap[L]? = W.heap[L]? ∧ W'.heap[D]? = W.heap[D]?) ∧ Ix .ret W'
  | .exit id, _, W' => (W'.heap[L]? = W.heap[L]? ∧ W'.heap[D]? = W.heap[D]?) ∧ Ix (.exit id) W'
  | _, _, _ => False
theorem iter_law {gf : Nat} {lb : Array Value} {vals : List (Array Value)} {G : Nat → World → Prop} (hit : Iter gf lb vals G) (eg : ∀ args w, (callFunc gf args).run Tryd.prog w = .ok (.enter gf args) w)
    {g : Operand} {ps : Array Tmp} {assign body : Code} {Q : Exit → Act → World → Prop} {a : Act} {W0 : World} (hg : a.eval g = .func (.func gf) #[] lb)
    (I : Nat → World → Prop) (Ix : Code → World → Prop) (hL : ∀ i W, I i W → G i W)
    (hI : ∀ i W W', I i W → Upd (fun k => k = W0.heap.size + 1) W W' → I i W')
    (hIx : ∀ c W W', Ix c W → Upd (fun k => k = W0.heap.size + 1) W W' → Ix c W') (h0 : I 0 W0)
    (A : Nat → Act) (hsz : ∀ i (hi : i < vals.length), vals[i].size = ps.size)
    (hassign : ∀ (L i : Nat) (hi : i < vals.length) (W : World) (K : Act → World → Prop), K (A i) W → assign.wpIn (Fence.wide.inRound L) 7 Tryd.prog (Exit.then K (fun _ _ _ => False)) { tmps := (ps.zip vals[i]).foldl (fun t (p, v) => t.setIfInBounds p v) a.tmps, defers := [] } W)
    (hbody : ∀ (L : Nat) i (hi : i < vals.length) W, L = W0.heap.size + 1 → I i W → W0.heap.size + 2 ≤ W.heap.size → (∃ r, W.heap[L]? = some (.loop r)) → body.wpIn (Fence.wide.inRound L) 7 Tryd.prog (rndWay L W0.heap.size W (I (i + 1)) Ix) (A i) W)
    (hdone : ∀ W, I vals.length W → W.heap[W0.heap.size]? = some (.deferred (some [])) → Q .normal { a with defers := { target := .collected W0.heap.size, args := #[] } :: a.defers } W)
    (hstop : ∀ c W, Ix c W → W.heap[W0.heap.size]? = some (.deferred (some [])) → c.wp Tryd.prog Q { a with defers := { target := .collected W0.heap.size, args := #[] } :: a.defers } W) :
    (Code.rangeFunc g ps assign body).wp Tryd.prog Q a W0 := by
  have hUL : ∀ (W : World) (o : Obj), Upd (fun k => k = W0.heap.size + 1) W (W.putObj (W0.heap.size + 1) o) := fun W o => upd_put (S := fun k => k = W0.heap.size + 1) (L := W0.heap.size + 1) rfl o
  refine (wpIn_wide (n := 9)).1 (rf_law hg eg (fun W => I vals.length W) Ix ?_ ?_ ?_)
  · intro r W1 hr1 hr2 hr3 hr4 hr5 hr6 hW1 hL1
    have hI1 : I 0 W1 := by
      refine hI 0 W0 W1 h0 ?_
      rw [hW1]; exact ((Upd.refl _ W0).alloc _).alloc _
    have hsz1 : W0.heap.size + 2 ≤ W1.heap.size := by rw [hW1]; simp
    have key := hit 8 (W0.heap.size + 1)
      (fun i W => I i W ∧ LoopAt W (W0.heap.size + 1) W0.heap.size r ∧ W0.heap.size + 2 ≤ W.heap.size)
      (fun W => ∃ c, Ix c W ∧ LoopAt W (W0.heap.size + 1) W0.heap.size { r with state := .done, pending := some c })
      (by omega) (fun i W h => hL i W h.1) ?_ ?_ W1 ⟨hI1, hL1, hsz1⟩
    · refine key.mono ?_
      rintro e W3 ⟨hv, ⟨h1, h2, _⟩ | ⟨c, h1, h2⟩⟩
      · exact ⟨hv, .inl ⟨h1, r, h2, by rw [hr1]; simp, hr2⟩⟩
      · exact ⟨hv, .inr ⟨c, h1, _, h2, by simp, rfl⟩⟩
    · rintro i W W' ⟨h1, h2, h3⟩ hb
      exact ⟨hI i W W' h1 (Upd.of_below hb), h2.kept (hb.block _ (by omega)) (hb.block _ (by omega)), by have := hb.size; omega⟩
    · rintro i hi W ⟨hi1, hl1, hs1⟩
      have hargs : vals[i].size = r.params.size := by rw [hr4]; exact hsz i hi
      refine YieldAt.mono (yield_law (Rn := fun W' => I (i + 1) W' ∧ LoopAt W' (W0.heap.size + 1) W0.heap.size r ∧ W0.heap.size + 2 ≤ W'.heap.size) (Rx := fun c W' => Ix c W' ∧ LoopAt W' (W0.heap.size + 1) W0.heap.size { r with state := .done, pending := some c }) hl1 hr1 hargs (A i) ?_ ?_) ?_
      · intro K hK
        rw [hr5, hr4, hr3]
        exact hassign _ i hi W K hK
      · intro W2 hW2 hl2
        have hI2 : I i W2 := by rw [hW2]; exact hI i W _ hi1 (hUL W _)
        have hs2 : W0.heap.size + 2 ≤ W2.heap.size := by rw [hW2]; simpa using hs1
        have hbd := hbody _ i hi W2 rfl hI2 hs2 ⟨_, hl2.lp⟩
        rw [← hr6] at hbd
        refine wpIn_mono hbd ?_
        intro e a3 W3 hp
        have put : ∀ q : Loop, (W3.heap[W0.heap.size + 1]? = W2.heap[W0.heap.size + 1]? ∧ W3.heap[W0.heap.size]? = W2.heap[W0.heap.size]?) → LoopAt W3 (W0.heap.size + 1) W0.heap.size { r with state := .busy } ∧ LoopAt (W3.putObj (W0.heap.size + 1) (.loop q)) (W0.heap.size + 1) W0.heap.size q ∧ W0.heap.size + 2 ≤ (W3.putObj (W0.heap.size + 1) (.loop q)).heap.size := by
          rintro q ⟨e1, e2⟩
          have hl3 := hl2.kept e1 e2
          refine ⟨hl3, hl3.put q, ?_⟩
          have := (Array.getElem?_eq_some_iff.1 hl3.lp).1
          simp; omega
        cases e with
        | normal =>
          obtain ⟨hk, hin⟩ := hp
          obtain ⟨p1, p2, p4⟩ := put { r with state := .ready, pending := none } hk
          have er : ({ r with state := .ready, pending := none } : Loop) = r := by cases r; simp_all
          refine ⟨p1, hI _ W3 _ hin (hUL W3 _), ?_, p4⟩
          rw [er] at p2 ⊢
          exact p2
        | ret =>
          obtain ⟨hk, hin⟩ := hp
          obtain ⟨p1, p2, p4⟩ := put { r with state := .done, pending := some .ret } hk
          exact ⟨p1, hIx _ W3 _ hin (hUL W3 _), p2⟩
        | exit id =>
          obtain ⟨hk, hin⟩ := hp
          obtain ⟨p1, p2, p4⟩ := put { r with state := .done, pending := some (.exit id) } hk
          exact ⟨p1, hIx _ W3 _ hin (hUL W3 _), p2⟩
        | goto t => exact hp.elim
        | panic ch => exact hp.elim
        | outgrown => exact hp.elim
      · rintro e W' (⟨rfl, h1⟩ | ⟨rfl, c, h1⟩)
        · exact .inl ⟨rfl, h1⟩
        · exact .inr ⟨rfl, c, h1⟩
  · intro W3 q hd hl
    exact hdone _ (hI _ W3 _ hd (hUL W3 _)) hl.defs
  · intro W3 q c hs hl
    exact wpIn_wide.2 (hstop c _ (hIx _ W3 _ hs (hUL W3 _)) hl.defs)
end Go.Proofs.YtdoojooepkdlhaaDoor.W.It
