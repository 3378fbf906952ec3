import Derived.Test.YtgmimmdojkoppaaGreatDoorBase2
import Derived.Test.YtgmimmdojkoppaaGreatDoorBase0
import Derived.Deep.RegionHeld3
import Derived.Deep.Quiet
/- Package store: what Pack does, in plain words. -/
namespace Go.Proofs.YtgmimmdojkoppaaGreatDoor.W
open Go.ChangeShapes Go.WideShapes Go.RowKit Go.Shelf
set_option linter.unusedVariables false

/-- blocks of the ring in their order, the front first, and where each lies and will lie -/
structure Pk (s : Sto) (c : List Nat) (bl : Nat → Blk) (p l u en : Nat → Nat) : Prop where
  ne : 0 < c.length
  zero : c[0]? = some 0
  nodup : c.Nodup
  get : ∀ i n, c[i]? = some n → s.get n = some (bl i)
  next : ∀ i, i < c.length → (bl i).next = (c[i + 1]?.getD 0 : Nat)
  pos : ∀ i, i < c.length → (bl i).pos = p i
  len : ∀ i, i < c.length → (bl i).len = l i
  up : ∀ i, i < c.length → up8 (l i) = u i
  en0 : en 0 = 0
  en1 : ∀ i, i < c.length → en (i + 1) = en i + u i
  le : ∀ i, i < c.length → en i ≤ p i
  stop : ∀ i, i < c.length → p i + u i ≤ s.row.length
  first : p 0 = 0 ∧ l 0 = 0
  rest : ∀ i, 0 < i → i < c.length → 0 < l i
theorem Pk.lu {s : Sto} {c : List Nat} {bl : Nat → Blk} {p l u en : Nat → Nat} (k : Pk s c bl p l u en) {i : Nat} (hi : i < c.length) : l i ≤ u i ∧ u i ≤ l i + 7 := by
  have := k.up i hi
  unfold up8 at this
  omega
theorem Pk.end_le {s : Sto} {c : List Nat} {bl : Nat → Blk} {p l u en : Nat → Nat} (k : Pk s c bl p l u en) : en c.length ≤ s.row.length := by
  have h0 := k.ne
  obtain ⟨m, hm⟩ : ∃ m, c.length = m + 1 := ⟨c.length - 1, by omega⟩
  rw [hm, k.en1 m (by omega)]
  have h1 := k.le m (by omega)
  have h2 := k.stop m (by omega)
  omega
def packN (s : Sto) (c : List Nat) (bl : Nat → Blk) (p l en : Nat → Nat) : Nat → Sto
  | 0 => s
  | i + 1 => { (packN s c bl p l en i).set (c.getD i 0) { bl i with pos := en i } with row := setL (packN s c bl p l en i).row (en i) (seg (packN s c bl p l en i).row (p i) (l i)), hand := (c.getD i 0 : Nat) }
section
variable {s : Sto} {c : List Nat} {bl : Nat → Blk} {p l u en : Nat → Nat}
theorem packN_row (i : Nat) : (packN s c bl p l en i).row.length = s.row.length := by
  induction i with
  | zero => rfl
  | succ i ih => simp [packN, setL_len, ih]
theorem packN_blks (i : Nat) : (packN s c bl p l en i).blks.length = s.blks.length := by
  induction i with
  | zero => rfl
  | succ i ih => simp [packN, set_len, ih]
theorem packN_rest (i : Nat) : (packN s c bl p l en i).free = s.free ∧ (packN s c bl p l en i).used = s.used ∧ (packN s c bl p l en i).sought = s.sought := by
  induction i with
  | zero => exact ⟨rfl, rfl, rfl⟩
  | succ i ih => simp [packN, set_free, set_used, set_sought, ih]
theorem getD_get {i n : Nat} (h : c[i]? = some n) : c.getD i 0 = n := by simp [List.getD, h]
theorem packN_later (hd : c.Nodup) (i j n : Nat) (h : i ≤ j) (hn : c[j]? = some n) : (packN s c bl p l en i).get n = s.get n := by
  induction i with
  | zero => rfl
  | succ i ih =>
    have hj := (List.getElem?_eq_some_iff.1 hn).1
    have e : c[i]? = some c[i] := List.getElem?_eq_getElem (by omega)
    have hne : n ≠ c.getD i 0 := by
      rw [getD_get e]
      obtain ⟨_, e2⟩ := List.getElem?_eq_some_iff.1 hn
      rw [← e2]
      exact (List.pairwise_iff_getElem.1 hd i j (by omega) hj (by omega)).symm
    show (({ (packN s c bl p l en i).set (c.getD i 0) { bl i with pos := en i } with row := _, hand := _ } : Sto)).get n = _
    have : (({ (packN s c bl p l en i).set (c.getD i 0) { bl i with pos := en i } with row := setL (packN s c bl p l en i).row (en i) (seg (packN s c bl p l en i).row (p i) (l i)), hand := (c.getD i 0 : Nat) } : Sto)).get n = ((packN s c bl p l en i).set (c.getD i 0) { bl i with pos := en i }).get n := rfl
    rw [this, get_set_ne _ hne]
    exact ih (by omega)
theorem packN_earlier (k : Pk s c bl p l u en) (i j n : Nat) (h : j < i) (hi : i ≤ c.length) (hn : c[j]? = some n) : (packN s c bl p l en i).get n = some { bl j with pos := en j } := by
  induction i with
  | zero => omega
  | succ i ih =>
    have hj := (List.getElem?_eq_some_iff.1 hn).1
    have e : c[i]? = some c[i] := List.getElem?_eq_getElem (by omega)
    have this : (packN s c bl p l en (i + 1)).get n = ((packN s c bl p l en i).set (c.getD i 0) { bl i with pos := en i }).get n := rfl
    rw [this]
    by_cases hji : j = i
    · subst hji
      rw [getD_get hn]
      refine get_set_same (b := bl j) ?_ _
      rw [packN_later k.nodup j j n (Nat.le_refl _) hn]
      exact k.get j n hn
    · have hne : n ≠ c.getD i 0 := by
        rw [getD_get e]
        obtain ⟨_, e2⟩ := List.getElem?_eq_some_iff.1 hn
        rw [← e2]
        exact List.pairwise_iff_getElem.1 k.nodup j i hj (by omega) (by omega)
      rw [get_set_ne _ hne]
      exact ih (by omega) (by omega)
end
theorem own_take {W : World} {e : TypeId} {v : Value} {n m : Nat} {xs : List Value} {o : Option Addr} {cap : Nat} (h : W.ownsRow 0 e 1 v n xs) (hv : v = .slice o n cap) (hm : m ≤ n) : W.ownsRow 0 e 1 (.slice o m cap) m (xs.take m) := by
  subst hv
  obtain ⟨h1, h2⟩ := h
  refine ⟨by simp at h1 ⊢; omega, ?_⟩
  rcases h2 with ⟨e, rfl⟩ | ⟨g, cap', cur, e, hb, hg, hc, hcm, hs, ht⟩
  · cases e
    exact .inl ⟨by rw [show m = 0 by omega], by omega⟩
  · cases e
    refine .inr ⟨g, cap, cur, rfl, hb, hg, by omega, hcm, hs, ?_⟩
    rw [← ht, List.take_take]
    congr 1; omega
end Go.Proofs.YtgmimmdojkoppaaGreatDoor.W
/- A region that draws its order, in a round of a range over a function: as anywhere. -/
namespace Go.Proofs.YtgmimmdojkoppaaGreatDoor.W
open Go.ChangeShapes Go.WideShapes Go.RowKit Go.Shelf
set_option linter.unusedVariables false

theorem opIn_of_wp {P : Program} {L n : Nat} {o : Oper} {a : Act} {w : World} {K K' : Act → World → Prop} {Q : Exit → Act → World → Prop} (hd : ∀ c, o.op ≠ .defer c) (hK : ∀ a w, K a w → K' a w) (h : o.wp P a w K Q) : o.wpIn (Fence.wide.inRound L) n P a w K' Q := by
  refine ⟨fun _ _ => trivial, ?_⟩
  rw [Oper.semAt_eq _ _ _ hd]
  unfold Oper.wp at h
  generalize (execOp a.eval o).run P w = r at *
  cases r with
  | ok x w' =>
    cases x with
    | value v => exact hK _ _ h
    | skip => exact hK _ _ h
    | defer d => exact hK _ _ h
    | enter f args =>
      refine ⟨fun e => by simp [Fence.wide, Fence.inRound] at e, ?_⟩
      refine CallsIn.inRound L (callsIn_wide.2 (Calls.mono h ?_))
      intro e w'' he
      cases e with
      | returned v => exact hK _ _ he
      | panicked ch => exact he
      | outgrown => exact he
    | row row args =>
      refine ⟨fun e => by simp [Fence.wide, Fence.inRound] at e, ?_⟩
      intro c cs _
      obtain ⟨v, w'', hr, hs⟩ := h c cs
      exact ⟨v, w'', hK _ _ hr, stepsIn_wide.2 hs⟩
    | round l f tmps assign body => exact h.elim
    | _ => exact h.elim
  | halt x w' => cases x <;> first | exact h | exact h.elim
theorem opsIn_of_wp {P : Program} {L n : Nat} {ops : Array Oper} {i : Nat} {a : Act} {w : World} {K K' : Act → World → Prop} {Q : Exit → Act → World → Prop} (hd : ∀ (i : Nat) (o : Oper), ops[i]? = some o → ∀ c, o.op ≠ .defer c) (hno : ¬ LetsOut Q) (hK : ∀ a w, K a w → K' a w) (h : wpOp P ops Q i K a w) : wpOpIn (Fence.wide.inRound L) n P ops Q i K' a w := by
  unfold wpOp at h
  unfold wpOpIn
  cases ho : ops[i]? with
  | none => rw [ho] at h; exact hK _ _ h
  | some o =>
    rw [ho] at h
    simp only at h ⊢
    split
    · rename_i hw
      rw [if_pos hw] at h
      rcases h with h | h
      · exact opIn_of_wp (hd i o ho) hK h
      · exact absurd h.2 hno
    · rename_i hw
      rw [if_neg hw] at h
      exact ⟨fun _ _ => trivial, hK _ _ h⟩
theorem anyIn_of_held {P : Program} {L n : Nat} {ops : Array Oper} {md : Region.Mode} {S : World → Prop} {Q : Exit → Act → World → Prop} (hd : ∀ (i : Nat) (o : Oper), ops[i]? = some o → ∀ c, o.op ≠ .defer c) (hno : ¬ LetsOut Q) :
    ∀ (fuel : Nat) (listed : Array Bool) (a : Act) (w : World), wpAnyH P md ops Q S fuel listed a w → wpAnyIn (Fence.wide.inRound L) n P md ops Q fuel listed a w
  | 0, _, _, _, h => h
  | fuel + 1, listed, a, w, h => ⟨h.1, fun i hi => opsIn_of_wp hd hno (fun a' w' h' => anyIn_of_held hd hno fuel _ a' w' h'.2) (h.2 i hi)⟩
theorem anyIn_of_any {P : Program} {L n : Nat} {ops : Array Oper} {md : Region.Mode} {Q : Exit → Act → World → Prop} (hd : ∀ (i : Nat) (o : Oper), ops[i]? = some o → ∀ c, o.op ≠ .defer c) (hno : ¬ LetsOut Q) :
    ∀ (fuel : Nat) (listed : Array Bool) (a : Act) (w : World), wpAny P md ops Q fuel listed a w → wpAnyIn (Fence.wide.inRound L) n P md ops Q fuel listed a w
  | 0, _, _, _, h => h
  | fuel + 1, listed, a, w, h => ⟨h.1, fun i hi => opsIn_of_wp hd hno (fun a' w' h' => anyIn_of_any hd hno fuel _ a' w' h') (h.2 i hi)⟩
/-- is no operation of a region a defer statement? -/
def noDefer (ops : Array Oper) : Bool := ops.all (fun o => match o.op with | .defer _ => false | _ => true)
theorem noDefer_spec {ops : Array Oper} (h : noDefer ops = true) : ∀ (i : Nat) (o : Oper), ops[i]? = some o → ∀ c, o.op ≠ .defer c := by
  intro i o ho c hc
  obtain ⟨hi, e⟩ := Array.getElem?_eq_some_iff.1 ho
  have := (Array.all_eq_true.1 h) i hi
  rw [e, hc] at this
  cases this
/-- the beginning, where one condition on the world holds along the region -/
theorem round_held {P : Program} {L n id : Nat} {ops : Array Oper} {S : World → Prop} {Q : Exit → Act → World → Prop} {a : Act} {w : World} (hm : P.follows .mixedOrders = true) (hd : noDefer ops = true) (hno : ¬ LetsOut Q) (h : wpAnyH P .any ops Q S ops.size (Array.replicate ops.size false) a w.drew) : (Code.region id ops true).wpIn (Fence.wide.inRound L) n P Q a w :=
  wpIn_region_any hm (anyIn_of_held (noDefer_spec hd) hno _ _ _ _ h)
/-- a region that only reads -/
theorem round_quiet {P : Program} {L n id : Nat} {l : List Oper} {Q : Exit → Act → World → Prop} {a : Act} {w : World} (hm : P.follows .mixedOrders = true) (hd : noDefer l.toArray = true) (hno : ¬ LetsOut Q) (hB : Region.lexB .any l.toArray = true)
    (h : wpQuiet P l.toArray (fun w' => ∃ n, w' = w.drewN n) (fun a' => ∀ w', (∃ n, w' = w.drewN n) → Q .normal a' w') l a) : (Code.region id l.toArray true).wpIn (Fence.wide.inRound L) n P Q a w := by
  simp only [Region.lexB, Bool.and_eq_true] at hB
  refine wpIn_region_any hm (anyIn_of_any (noDefer_spec hd) hno _ _ _ _ (wpAny_of_quiet (C := fun w' => ∃ n, w' = w.drewN n) (Q := fun a' => ∀ w', (∃ n, w' = w.drewN n) → Q .normal a' w') (fun _ w' hw' h => h w' hw') _ _ _ _ ⟨1, rfl⟩ ?_))
  have := wpAnyQ_lex (C := fun w' => ∃ n, w' = w.drewN n) (md := .any) hB.1 l 0 (Array.replicate l.toArray.size false) a (by simp) (by simpa using hB.2) h
  simpa using this
end Go.Proofs.YtgmimmdojkoppaaGreatDoor.W
