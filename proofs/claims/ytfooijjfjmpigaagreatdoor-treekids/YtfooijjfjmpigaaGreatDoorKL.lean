import Derived.Test.YtfooijjfjmpigaaGreatDoorJM
import Derived.Test.YtfooijjfjmpigaaGreatDoorKK
import Derived.Test.YtfooijjfjmpigaaGreatDoorKG
/- Chapter 12 in plain words: a fault has a number that is not 0. -/
namespace Go.Proofs.YtfooijjfjmpigaaGreatDoor.W.Tr
set_option linter.unusedVariables false
set_option linter.unusedSimpArgs false
/-- the tokens end with the last one, or with a fault -/
def Gd (s : Cs) : Prop := ∃ xs z, s.r = xs ++ [z] ∧ (z.c = 0 → z.t.kind = 7)
/-- whatever it comes to: no fault of number 0, and Q -/
def Wq {α : Type} (x : Pm α) (s : Cs) (Q : α → Cs → Prop) : Prop := ∀ r, x s = some r → (∀ f, r = .error f → f.1 ≠ 0) ∧ ∀ a s', r = .ok (a, s') → Q a s'
section
variable {α β : Type} {s : Cs}
theorem Wq.bind {x : Pm α} {f : α → Pm β} {Q : β → Cs → Prop} (h : Wq x s (fun a s' => Wq (f a) s' Q)) : Wq (x.bind f) s Q := by
  intro r e
  rcases bind_inv e with ⟨g, h1, rfl⟩ | ⟨a, s', h1, h2⟩
  · exact ⟨fun f' hf => (h _ h1).1 _ (by cases hf; rfl), fun a s' hh => by cases hh⟩
  · exact (h _ h1).2 a s' rfl r h2
theorem Wq.pure {a : α} {Q : α → Cs → Prop} (h : Q a s) : Wq (Pm.pure a) s Q := by
  intro r e
  have := pure_inv e
  subst this
  exact ⟨fun f hf => by (cases hf), fun b s' hh => by (cases hh; exact h)⟩
theorem Wq.fail {e : Flt} {Q : α → Cs → Prop} (h : e.1 ≠ 0) : Wq (failM e) s Q := by
  intro r e'
  have : r = .error e := (Option.some.inj e').symm
  subst this
  exact ⟨fun f hf => by (cases hf; exact h), fun b s' hh => by cases hh⟩
theorem look_gd (hg : Gd s) : (∃ e, look s = .error e ∧ e.1 ≠ 0) ∨ ∃ y, look s = .ok y := by
  obtain ⟨xs, z, hr, hz⟩ := hg
  unfold look
  cases hs : s.r with
  | nil => rw [hs] at hr; simp at hr
  | cons y ys =>
    simp only
    by_cases hc : y.c = 0
    · rw [if_pos hc]
      split
      · exact .inl ⟨_, rfl, show (71 : Int) ≠ 0 by decide⟩
      · exact .inr ⟨_, rfl⟩
    · rw [if_neg hc]
      exact .inl ⟨_, rfl, hc⟩
theorem Wq.look {Q : Yd → Cs → Prop} (hg : Gd s) (h : ∀ y, Tr.look s = .ok y → Q y s) : Wq lookM s Q := by
  intro r e
  unfold lookM at e
  rcases look_gd hg with ⟨f, h1, h2⟩ | ⟨y, h1⟩
  · rw [h1] at e
    have : r = .error f := (Option.some.inj e).symm
    subst this
    exact ⟨fun f' hf => by (cases hf; exact h2), fun b s' hh => by cases hh⟩
  · rw [h1] at e
    have : r = .ok (y, s) := (Option.some.inj e).symm
    subst this
    exact ⟨fun f' hf => by (cases hf), fun b s' hh => by (cases hh; exact h y h1)⟩
theorem gd_behind (hg : Gd s) {y : Yd} (hl : Tr.look s = .ok y) (hk : y.t.kind ≠ 7) : Gd (behind y s) := by
  obtain ⟨xs, z, hr, hz⟩ := hg
  cases xs with
  | nil =>
    exfalso
    unfold Tr.look at hl
    rw [hr] at hl
    simp only [List.nil_append] at hl
    by_cases hc : z.c = 0
    · rw [if_pos hc] at hl
      split at hl
      · cases hl
      · cases hl
        exact hk (hz hc)
    · rw [if_neg hc] at hl
      cases hl
  | cons x xs => exact ⟨xs, z, by simp [behind, hr], hz⟩
theorem Wq.take {Q : Yd → Cs → Prop} (hg : Gd s) (hk : ∀ y, Tr.look s = .ok y → y.t.kind ≠ 7) (h : ∀ y s', Gd s' → Q y s') : Wq takeM s Q := by
  intro r e
  unfold takeM at e
  rcases look_gd hg with ⟨f, h1, h2⟩ | ⟨y, h1⟩
  · rw [h1] at e
    have : r = .error f := (Option.some.inj e).symm
    subst this
    exact ⟨fun f' hf => by (cases hf; exact h2), fun b s' hh => by cases hh⟩
  · rw [h1] at e
    have : r = .ok (y, behind y s) := (Option.some.inj e).symm
    subst this
    exact ⟨fun f' hf => by (cases hf), fun b s' hh => by (cases hh; exact h y _ (gd_behind hg h1 (hk y h1)))⟩
theorem Wq.ite {c : Prop} [Decidable c] {x y : Pm α} {Q : α → Cs → Prop} (h : c → Wq x s Q) (g : ¬ c → Wq y s Q) : Wq (if c then x else y) s Q := by
  by_cases k : c
  · rw [if_pos k]; exact h k
  · rw [if_neg k]; exact g k
theorem fix_kind {t : Tk} {k : ByteArray} (h : fixedT t = k) (hk : k ≠ ⟨#[]⟩) : t.kind ≠ 7 := by
  intro e
  unfold fixedT at h
  rw [if_neg (by omega)] at h
  exact hk h.symm
theorem same_look {y : Yd} (h : Tr.look s = .ok y) {p : Yd → Prop} (hp : p y) : ∀ z, Tr.look s = .ok z → p z := by
  intro z hz
  rw [h] at hz
  cases hz
  exact hp
theorem Wq.want {t : ByteArray} {Q : Yd → Cs → Prop} (hg : Gd s) (ht : t ≠ ⟨#[]⟩) (h : ∀ y s', Gd s' → Q y s') : Wq (wantM t) s Q :=
  Wq.bind (Wq.look hg fun y hy => Wq.ite (fun hf => Wq.take hg (same_look hy (p := fun y => y.t.kind ≠ 7) (fix_kind hf ht)) h) (fun _ => Wq.fail (show (70 : Int) ≠ 0 by decide)))
theorem Wq.name {Q : Yd → Cs → Prop} (hg : Gd s) (h : ∀ y s', Gd s' → Q y s') : Wq nameM s Q :=
  Wq.bind (Wq.look hg fun y hy => Wq.ite (fun hf => Wq.take hg (same_look hy (p := fun y => y.t.kind ≠ 7) (by omega)) h) (fun _ => Wq.fail (show (70 : Int) ≠ 0 by decide)))
end
def PreQ : Nt → Cs → Prop
  | .bn k, _ => 1 ≤ k
  | .bnT k _, _ => 1 ≤ k
  | .jm _, s => ∀ y, look s = .ok y → y.t.kind ≠ 7
  | _, _ => True
theorem Wq.st {s : Cs} {Q : Cs → Cs → Prop} (h : Q s s) : Wq stM s Q := by
  intro r e
  have : r = .ok (s, s) := (Option.some.inj e).symm
  subst this
  exact ⟨fun f hf => by (cases hf), fun b s' hh => by (cases hh; exact h)⟩
theorem comp_kind {t : Tk} (h : comp (fixedT t) = true) : t.kind ≠ 7 := by
  intro e
  unfold fixedT at h
  rw [if_neg (by omega)] at h
  revert h
  decide
theorem tight_kind {t : Tk} {k : Nat} (h : tight (fixedT t) = k) (hk : 1 ≤ k) : t.kind ≠ 7 := by
  intro e
  unfold fixedT at h
  rw [if_neg (by omega)] at h
  have : tight ⟨#[]⟩ = 0 := by decide
  omega
theorem perr : ∀ (n : Nat) (nt : Nt) (s : Cs), Gd s → PreQ nt s → Wq (P n nt) s (fun _ s' => Gd s')
  | 0, nt, s, hg, hp => by intro r e; cases e
  | n + 1, nt, s, hg, hp => by
    have ih : ∀ (nt : Nt) (s : Cs) (Q : Fo → Cs → Prop), Gd s → PreQ nt s → (∀ a s', Gd s' → Q a s') → Wq (P n nt) s Q := fun nt s Q hg hp h r e => ⟨(perr n nt s hg hp r e).1, fun a s' hh => h a s' ((perr n nt s hg hp r e).2 a s' hh)⟩
    cases nt
    all_goals unfold P
    case' pl =>
      refine Wq.bind (ih _ _ _ hg trivial fun f s1 h1 => ?_)
      refine Wq.bind (Wq.look h1 fun z hz => ?_)
      cases f
    case' bn k => have hp : 1 ≤ k := hp
    case' bnT k l => have hp : 1 ≤ k := hp
    case' jm k =>
      have hp : ∀ y, look s = .ok y → y.t.kind ≠ 7 := hp
      refine Wq.bind (Wq.take hg hp fun y s1 h1 => ?_)
    all_goals (repeat' (first | assumption | (with_reducible refine Wq.want (by assumption) (by decide) ?_; intro _ _ _) | (with_reducible refine Wq.name (by assumption) ?_; intro _ _ _) | (with_reducible refine Wq.bind ?_) | (with_reducible refine Wq.look (by assumption) ?_; intro _ _) | (with_reducible refine Wq.take (by assumption) (same_look (by assumption) (p := fun y => y.t.kind ≠ 7) (by (first | exact fix_kind (by assumption) (by decide) | exact comp_kind (by assumption) | exact tight_kind (by assumption) (by assumption) | omega | (rename_i hor; rcases hor with h | h <;> exact fix_kind h (by decide))))) ?_; intro _ _ _) | (with_reducible refine Wq.st ?_) | (with_reducible refine Wq.pure ?_) | (with_reducible refine Wq.ite ?_ ?_ <;> intro _) | (refine ih _ _ _ (by assumption) (by (first | exact trivial | (show 1 ≤ _; omega) | (show _ ≤ _; assumption) | (exact same_look (by assumption) (p := fun y => y.t.kind ≠ 7) (by (first | exact fix_kind (by assumption) (by decide) | exact comp_kind (by assumption) | exact tight_kind (by assumption) (by assumption) | omega | (rename_i hor; rcases hor with h | h <;> exact fix_kind h (by decide))))) | (split <;> exact trivial))) ?_; intro _ _ _)))
end Go.Proofs.YtfooijjfjmpigaaGreatDoor.W.Tr
/- Stage 12, TreeKids: its state, its early ends. -/
namespace Go.Proofs.YtfooijjfjmpigaaGreatDoor.W.Tr
open Go.ChangeShapes Go.WideShapes Go.RowKit Go.Shelf
set_option linter.unusedVariables false
set_option linter.unusedSimpArgs false
theorem underB : Tryz.prog.underlying 4 = some .bool := by kernel_rfl
theorem load_bool (w : World) (b : Nat) (v : Value) (h : w.cell? ⟨b, 0, none⟩ = some v) : (loadVar 4 ⟨b, 0, none⟩).run Tryz.prog w = .ok v w := by
  simp [loadVar, isAgg, run_underlying underB, h, go_sem]
theorem bool_ret {fn : Func} {p : Tmp} (h : fn.results = #[.cell p 4]) (tmps : Array Value) (w : World) (b : Nat) (v : Value) (hp : tmps.getD p undef = .pointer (some ⟨b, 0, none⟩)) (hg : w.cell? ⟨b, 0, none⟩ = some v) : (results fn tmps).run Tryz.prog w = .ok v w := by
  have hl := load_bool w b v hg
  have hp' : tmps[p]?.getD undef = .pointer (some ⟨b, 0, none⟩) := by simpa using hp
  simp [results, h, hp', asAddr, hl]
set_option maxRecDepth 100000 in
theorem kids_long (src : ByteArray) (h : 6000 < src.size) (w : World) : Calls Tryz.prog 7 #[.string src] w fun e w' => e = .returned (.bool true) ∧ Below w.heap.size w w' := by
  have j1 : ((src.size : Nat) : Int) > 6000 := by omega
  have hn := World.alloc_heap_new w (.cells #[.bool false] 4)
  have hs : (w.alloc (.cells #[.bool true] 4)).cell? ⟨w.heap.size, 0, none⟩ = some (.bool true) := row_cellsX (World.alloc_heap_new w _) 0
  have hB : Below w.heap.size w (w.alloc (.cells #[.bool true] 4)) := (Below.refl _ w).alloc (Nat.le_refl _) _
  have HS := hid hs
  have HB := hid hB
  clear hs hB hn
  go_enter Tryz.func7, Tryz.ntmps7
  go_wp2_with fail
  refine bodyPost_ret (bool_ret Tryz.results7 _ _ w.heap.size _ (by simp) HS.out) rfl ?_
  exact ⟨rfl, HB.out⟩
theorem list89 (f : Nat → Value) : (List.range 89).map f = [f 0, f 1, f 2, f 3, f 4, f 5, f 6, f 7, f 8, f 9, f 10, f 11, f 12, f 13, f 14, f 15, f 16, f 17, f 18, f 19, f 20, f 21, f 22, f 23, f 24, f 25, f 26, f 27, f 28, f 29, f 30, f 31, f 32, f 33, f 34, f 35, f 36, f 37, f 38, f 39, f 40, f 41, f 42, f 43, f 44, f 45, f 46, f 47, f 48, f 49, f 50, f 51, f 52, f 53, f 54, f 55, f 56, f 57, f 58, f 59, f 60, f 61, f 62, f 63, f 64, f 65, f 66, f 67, f 68, f 69, f 70, f 71, f 72, f 73, f 74, f 75, f 76, f 77, f 78, f 79, f 80, f 81, f 82, f 83, f 84, f 85, f 86, f 87, f 88] := rfl
def kact (x2 x3 x5 x6 : Value) (u : Nat → Value) : Array Value := #[u 0, u 1, x2, x3, u 4, x5, x6, u 7, u 8, u 9, u 10, u 11, u 12, u 13, u 14, u 15, u 16, u 17, u 18, u 19, u 20, u 21, u 22, u 23, u 24, u 25, u 26, u 27, u 28, u 29, u 30, u 31, u 32, u 33, u 34, u 35, u 36, u 37, u 38, u 39, u 40, u 41, u 42, u 43, u 44, u 45, u 46, u 47, u 48, u 49, u 50, u 51, u 52, u 53, u 54, u 55, u 56, u 57, u 58, u 59, u 60, u 61, u 62, u 63, u 64, u 65, u 66, u 67, u 68, u 69, u 70, u 71, u 72, u 73, u 74, u 75, u 76, u 77, u 78, u 79, u 80, u 81, u 82, u 83, u 84, u 85, u 86, u 87, u 88]
theorem kact_of (t : Array Value) {x2 x3 x5 x6 : Value} (hs : t.size = 89) (h2 : t.getD 2 undef = x2) (h3 : t.getD 3 undef = x3) (h5 : t.getD 5 undef = x5) (h6 : t.getD 6 undef = x6) : ∃ u, t = kact x2 x3 x5 x6 u := by
  refine ⟨fun n => t.getD n undef, ?_⟩
  subst h2 h3 h5 h6
  have e : t.toList = (List.range 89).map (fun n => t.getD n undef) := by
    apply List.ext_getElem?
    intro i
    by_cases hi : i < 89
    · rw [List.getElem?_map, List.getElem?_range hi]
      simp [hi, hs]
    · rw [List.getElem?_eq_none (by simp; omega), List.getElem?_eq_none (by simp; omega)]
  rw [list89] at e
  have : t = t.toList.toArray := by simp
  rw [this, e]
  rfl
/-- how often each place was met, as cells -/
def metV (n : Nat) (cnt : Nat → Nat) : List Value := (List.range n).map fun k => Value.int .i64 (cnt k : Nat)
theorem metV_at (n : Nat) (cnt : Nat → Nat) (k : Nat) (hk : k < n) : (metV n cnt).toArray[k]? = some (.int .i64 (cnt k : Nat)) := by
  simp [metV, hk]
theorem metV_set (n : Nat) (cnt : Nat → Nat) (k : Nat) (hk : k < n) : (metV n cnt).set k (.int .i64 ((cnt k + 1 : Nat) : Int)) = metV n (fun x => cnt x + if x = k then 1 else 0) := by
  apply List.ext_getElem?
  intro i
  rw [List.getElem?_set]
  by_cases h : k = i
  · subst h
    simp [metV, hk]
  · rw [if_neg h]
    by_cases hi : i < n
    · have : ¬ i = k := fun e => h e.symm
      simp [metV, hi, this]
    · simp [metV, hi]
/-- along TreeKids -/
structure Kq (w W : World) (lb mb xb gl lc : Nat) (L : List (Nd × Nat)) (cnt : Nat → Nat) : Prop where
  bel : Below w.heap.size w W
  res : W.heap[w.heap.size]? = some (.cells #[.bool false] 4 (0, 0))
  lbox : W.heap[lb]? = some (.cells #[.slice (some ⟨gl, 0, none⟩) L.length lc] 22 (0, 0))
  lrow : NR W (.slice (some ⟨gl, 0, none⟩) L.length lc) L
  lcur : ∃ cur, W.heap[gl]? = some (.cells cur 44 (0, 0))
  mbox : W.heap[xb]? = some (.cells #[.slice (some ⟨mb, 0, none⟩) L.length L.length] 38 (0, 0))
  mrow : W.heap[mb]? = some (.cells (metV L.length cnt).toArray 3 (0, 0))
  og : w.heap.size < gl
  ol : w.heap.size < lb
  om : w.heap.size < mb
  ox : w.heap.size < xb
section
variable {w W W' : World} {lb mb xb gl lc : Nat} {L : List (Nd × Nat)} {cnt : Nat → Nat} {S : Nat → Prop}
theorem Kq.lt (q : Kq w W lb mb xb gl lc L cnt) : w.heap.size < W.heap.size ∧ lb < W.heap.size ∧ gl < W.heap.size ∧ xb < W.heap.size ∧ mb < W.heap.size := by
  obtain ⟨cur, hc⟩ := q.lcur
  exact ⟨(Array.getElem?_eq_some_iff.1 q.res).1, (Array.getElem?_eq_some_iff.1 q.lbox).1, (Array.getElem?_eq_some_iff.1 hc).1, (Array.getElem?_eq_some_iff.1 q.mbox).1, (Array.getElem?_eq_some_iff.1 q.mrow).1⟩
theorem nr_keep {g c n : Nat} {L : List (Nd × Nat)} (h : NR W (.slice (some ⟨g, 0, none⟩) n c) L) {cur : Array Value} {t : TypeId} (h1 : W.heap[g]? = some (.cells cur t (0, 0))) (h2 : W'.heap[g]? = some (.cells cur t (0, 0))) : NR W' (.slice (some ⟨g, 0, none⟩) n c) L := by
  obtain ⟨g', c', e, hl, hc⟩ := h
  simp only [Value.slice.injEq, Option.some.injEq, Addr.mk.injEq, true_and, and_true] at e
  obtain ⟨rfl, rfl, rfl⟩ := e
  refine ⟨g, c, rfl, hl, fun i p hp j hj => ?_⟩
  rw [← hc i p hp j hj, row_cellsX h1, row_cellsX h2]
theorem Kq.keep (q : Kq w W lb mb xb gl lc L cnt) (hU : It.Upd S W W') (hS : ∀ k, S k → w.heap.size < k ∧ k ≠ lb ∧ k ≠ gl ∧ k ≠ mb ∧ k ≠ xb) : Kq w W' lb mb xb gl lc L cnt := by
  obtain ⟨l1, l2, l3, l4, l5⟩ := q.lt
  obtain ⟨cur, hc⟩ := q.lcur
  have hg : W'.heap[gl]? = some (.cells cur 44 (0, 0)) := (hU.block _ l3 (fun e => (hS _ e).2.2.1 rfl)).trans hc
  exact ⟨q.bel.trans (hU.below (by omega) (fun k e => by have := (hS k e).1; omega)), (hU.block _ l1 (fun e => by have := (hS _ e).1; omega)).trans q.res, (hU.block _ l2 (fun e => (hS _ e).2.1 rfl)).trans q.lbox, nr_keep q.lrow hc hg, ⟨cur, hg⟩, (hU.block _ l4 (fun e => (hS _ e).2.2.2.2 rfl)).trans q.mbox, (hU.block _ l5 (fun e => (hS _ e).2.2.2.1 rfl)).trans q.mrow, q.og, q.ol, q.om, q.ox⟩
theorem Kq.below (q : Kq w W lb mb xb gl lc L cnt) (hB : Below W.heap.size W W') : Kq w W' lb mb xb gl lc L cnt :=
  q.keep (S := fun _ => False) (It.Upd.of_below hB) (fun k e => e.elim)
theorem Kq.ne (q : Kq w W lb mb xb gl lc L cnt) : lb ≠ mb ∧ gl ≠ mb ∧ lb ≠ gl ∧ xb ≠ mb := by
  obtain ⟨cur, hc⟩ := q.lcur
  refine ⟨?_, ?_, ?_, ?_⟩
  · rintro rfl
    have := q.lbox
    rw [q.mrow] at this
    simp only [Option.some.injEq, Obj.cells.injEq] at this
    exact absurd this.2.1 (by decide)
  · rintro rfl
    rw [q.mrow] at hc
    simp only [Option.some.injEq, Obj.cells.injEq] at hc
    exact absurd hc.2.1 (by decide)
  · rintro rfl
    have := q.lbox
    rw [hc] at this
    simp only [Option.some.injEq, Obj.cells.injEq] at this
    exact absurd this.2.1 (by decide)
  · rintro rfl
    have := q.mbox
    rw [q.mrow] at this
    simp only [Option.some.injEq, Obj.cells.injEq] at this
    exact absurd this.2.1 (by decide)
/-- a place is met -/
theorem Kq.met (q : Kq w W lb mb xb gl lc L cnt) (k : Nat) (hk : k < L.length) : Kq w (W.setCell ⟨mb, k, none⟩ (.int .i64 ((cnt k + 1 : Nat) : Int))) lb mb xb gl lc L (fun x => cnt x + if x = k then 1 else 0) := by
  obtain ⟨cur, hc⟩ := q.lcur
  obtain ⟨n1, n2, _, n4⟩ := q.ne
  have hs := heap_setX q.mrow k (.int .i64 ((cnt k + 1 : Nat) : Int))
  rw [metV_set _ _ _ hk] at hs
  have hg : (W.setCell ⟨mb, k, none⟩ (.int .i64 ((cnt k + 1 : Nat) : Int))).heap[gl]? = some (.cells cur 44 (0, 0)) := (Below.heap_setCell _ _ _ _ n2).trans hc
  have om := q.om
  exact ⟨q.bel.setCell (p := ⟨mb, k, none⟩) (Nat.le_of_lt om) _, (Below.heap_setCell _ _ _ _ (by show w.heap.size ≠ mb; omega)).trans q.res, (Below.heap_setCell _ _ _ _ n1).trans q.lbox, nr_keep q.lrow hc hg, ⟨cur, hg⟩, (Below.heap_setCell _ _ _ _ n4).trans q.mbox, hs, q.og, q.ol, q.om, q.ox⟩
end
end Go.Proofs.YtfooijjfjmpigaaGreatDoor.W.Tr
/- Stage 12, TreeKids: a source that is refused. -/
namespace Go.Proofs.YtfooijjfjmpigaaGreatDoor.W.Tr
open Go.ChangeShapes Go.WideShapes Go.RowKit Go.Shelf
set_option linter.unusedVariables false
set_option linter.unusedSimpArgs false
theorem toks_gd (l : List UInt8) : ∀ (f a : Nat), l.length + 1 ≤ f + a → 0 < f → ∃ xs z, toksY f l a = xs ++ [z] ∧ (z.c = 0 → z.t.kind = 7)
  | 0, a, h, h0 => by omega
  | f + 1, a, h, h0 => by
    unfold toksY
    split
    · exact ⟨[], _, rfl, fun _ => rfl⟩
    rename_i h1
    split
    · exact ⟨[], _, rfl, fun e => by cases e⟩
    rename_i h2
    split
    · rename_i h3
      exact ⟨[], _, rfl, fun e => absurd e h3⟩
    obtain ⟨xs, z, e, hz⟩ := toks_gd l f (a + (pieceP (l.drop a)).size) (by omega) (by omega)
    split
    · exact ⟨_ :: xs, z, by rw [e]; rfl, hz⟩
    · exact ⟨xs, z, e, hz⟩
theorem gd_src (l : List UInt8) : Gd ⟨srcY l, 0⟩ := by
  unfold Gd srcY
  simp only
  split
  · exact ⟨[], _, rfl, fun e => by cases e⟩
  · exact toks_gd l _ 0 (by omega) (by omega)
theorem ends_code {l : List UInt8} {f : Flt} (h : Ends l (.error f)) : f.1 ≠ 0 := by
  obtain ⟨n, h⟩ := h
  exact (perr n (.pg .nil) _ (gd_src l) trivial _ h).1 f rfl
set_option maxRecDepth 100000 in
set_option maxHeartbeats 1000000 in
theorem kids_bad (src : ByteArray) (hs : ¬ 6000 < src.size) (f : Flt) (hE : Ends src.data.toList (.error f)) (w : World) (ht : Tabs w) (hm : MarksIn w) : Calls Tryz.prog 7 #[.string src] w fun e w' => e = .returned (.bool true) ∧ Below w.heap.size w w' := by
  have hc := ends_code hE
  have j1 : ¬ ((src.size : Nat) : Int) > 6000 := by omega
  have b1 : Below w.heap.size w (w.alloc (.cells #[.bool false] 4)) := (Below.refl _ w).alloc (Nat.le_refl _) _
  have hn := World.alloc_heap_new w (.cells #[.bool false] 4)
  have cp := parse_bad src (by omega) _ (ht.below b1) (hm.below b1) hE
  unfold fv at cp
  have j2 : (f.1 != 0) = true := by simpa using hc
  have j3 : (f.1 == 0) = false := by simpa using hc
  have HT := hid ht
  have HM := hid hm
  clear hE ht hm hs hc
  generalize f.1 = fc at *
  generalize f.2 = ft at *
  go_enter Tryz.func7, Tryz.ntmps7
  go_wp2_with (first | (go_at_call 8; (with_reducible refine cp.mono ?_); rintro e w2 ⟨rfl, hB2⟩; (have h2 := b1.trans (hB2.mono b1.size)); (have b3 : Below w2.heap.size w2 ((w2.alloc (.cells #[.slice none 0 0] 22)).alloc (.cells #[.int .i64 fc, .int .i64 ft] 25)) := ((Below.refl _ w2).alloc (Nat.le_refl _) _).alloc (by simp) _); (have HB3 := hid (h2.trans (b3.mono h2.size))); (have HN3 := hid (row_keepX (row_keepX hn hB2) b3)); clear hB2 h2 b3 cp hn b1) | (go_at_call 9; (with_reducible refine (awake12_c _ (HT.out.below HB3.out) (HM.out.below HB3.out)).mono ?_); rintro e w6 ⟨rfl, hB6⟩; (have f6 := row_keepX HN3.out hB6); (have c6 := row_cellsX f6 0); (have z6 := row_thawX f6 0); simp only [List.getElem?_toArray, List.getElem?_cons_zero] at c6; (have HB6 := hid (HB3.out.trans (hB6.mono HB3.out.size))); (have HS := hid (row_cellsX (heap_setX (c := [.bool false]) f6 0 (.bool true)) 0)); clear hB6 f6))
  refine bodyPost_ret (bool_ret Tryz.results7 _ _ w.heap.size (.bool true) (by simp) HS.out) rfl ?_
  exact ⟨rfl, HB6.out.setCell (p := ⟨w.heap.size, 0, none⟩) (Nat.le_refl _) _⟩
end Go.Proofs.YtfooijjfjmpigaaGreatDoor.W.Tr
/- Stage 12, TreeKids: a source that is right, walked. -/
namespace Go.Proofs.YtfooijjfjmpigaaGreatDoor.W.Tr
open Go.ChangeShapes Go.WideShapes Go.RowKit Go.Shelf
set_option linter.unusedVariables false
set_option linter.unusedSimpArgs false
theorem kids_le (f : Fo) : ∀ p ∈ rowF f, p.2 ≤ (rowF f).length := by
  intro p hp
  obtain ⟨i, hi⟩ := List.getElem?_of_mem hp
  obtain ⟨A, n, ks, R, h1, h2⟩ := row_at f i (List.getElem?_eq_some_iff.1 hi).1
  rw [h1, ← h2, List.getElem?_append_right (Nat.le_refl _)] at hi
  simp at hi
  subst hi
  have := len_rowF ks
  rw [h1]
  simp
  omega
theorem pg_form' : ∀ (n : Nat) (l : Fo) (s : Cs) (fo : Fo) (s' : Cs), P n (.pg l) s = some (.ok (fo, s')) → ∃ nd m, fo = Fo.one nd m
  | 0, l, s, fo, s', h => by cases h
  | n + 1, l, s, fo, s', h => by
    have h : (lookM.bind fun y => if y.t.kind = 7 then Pm.pure (Fo.one ⟨1, 0, ⟨#[]⟩, 0, 0⟩ l) else (P n (if fixedT y.t = k_let then .gl else .fu)).bind fun x => P n (.pg (l.app x))) s = some (.ok (fo, s')) := h
    rcases look_inv h with ⟨e, _, h1⟩ | ⟨y, _, h1⟩
    · cases h1
    · split at h1
      · have := pure_inv h1
        cases this
        exact ⟨_, _, rfl⟩
      · rcases bind_inv h1 with ⟨e, _, h2⟩ | ⟨x, s1, _, h2⟩
        · cases h2
        · exact pg_form' n _ _ _ _ h2
theorem madeI (v : Value) (n : Nat) : (madeCells #[v] n).toList = List.replicate n v := by
  apply List.ext_getElem?
  intro i
  by_cases hi : i < n
  · rw [List.getElem?_replicate, if_pos hi]
    simp [madeCells, hi, Nat.mod_one]
  · rw [List.getElem?_replicate, if_neg hi]
    simp [madeCells, hi]
theorem make_met (w : World) (n : Nat) (hn : n ≤ 1000000) : ∃ w', (Instr.makeSlice 38 (.int .i64 (n : Int)) (.int .i64 (n : Int))).run Tryz.prog w = .ok (.slice (some ⟨w.heap.size, 0, none⟩) n n) w' ∧ w'.heap[w.heap.size]? = some (.cells (metV n (fun _ => 0)).toArray 3 (0, 0)) ∧ Below w.heap.size w w' := by
  obtain ⟨i0, hi, hz0, hz1, hz2⟩ := info_parts infoI
  obtain ⟨w', h1, h2, h3⟩ := run_makeSlice_full (P := Tryz.prog) w w.heap.size 38 3 i0 (.int .i64 0) 1 underI hi hz0 hz1 .i64 .i64 n (by omega) (by rw [hz2]; omega) (by simp [maxLen]; omega) (Nat.le_refl _)
  have e : (madeCells (Value.int .i64 0).cells (n * 1)).toList = metV n (fun _ => 0) := by
    rw [Nat.mul_one]
    have := madeI (.int .i64 0) n
    rw [show (Value.int .i64 0).cells = #[.int .i64 0] from rfl, this]
    unfold metV
    rw [List.map_const', List.length_range]
    rfl
  rw [e] at h2
  have hlt := (h2.lt _ rfl).2
  have hU : It.Upd (fun _ => False) w w' := (It.Upd.refl (fun _ => False) w).grown h3 (fun k e => by cases e)
  refine ⟨w', h1, ?_, hU.below (Nat.le_refl _) (fun k e => e.elim)⟩
  · rcases h2.2 with ⟨hv, _⟩ | ⟨g, cap, cur, hv, _, hg, _, _, hsz, htk⟩
    · cases hv
    · cases hv
      rw [hg]
      have : cur.toList = metV n (fun _ => 0) := by
        rw [← htk, List.take_of_length_le (by rw [Array.length_toList, hsz]; exact Nat.le_refl _)]
      rw [← this]
end Go.Proofs.YtfooijjfjmpigaaGreatDoor.W.Tr
