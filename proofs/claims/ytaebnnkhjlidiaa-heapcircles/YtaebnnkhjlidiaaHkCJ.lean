import Derived.Test.YtaebnnkhjlidiaaHkBJ
import Derived.OrdersHeld
/- A region that draws its order and holds a yield: what only reads is taken first. -/
namespace Go.Proofs.Ytaebnnkhjlidiaa.W
open Go.ChangeShapes Go.WideShapes Go.RowKit Go.Shelf
set_option linter.unusedVariables false
section
variable {n : Nat} {P : Program} {ops : Array Oper} {Q : Exit → Act → World → Prop} {md : Region.Mode} {S : World → Prop}
/-- every order, at the wide fence; S holds behind each operation -/
def anyS (n : Nat) (P : Program) (md : Region.Mode) (ops : Array Oper) (Q : Exit → Act → World → Prop) (S : World → Prop) : Nat → Array Bool → Act → World → Prop
  | 0, l, a, w => Region.ready md ops l = [] ∧ Q .normal a w
  | k + 1, l, a, w => (Region.ready md ops l = [] → Q .normal a w) ∧ ∀ i ∈ Region.ready md ops l, wpOpIn Fence.wide n P ops Q i (fun a' w' => S w' ∧ anyS n P md ops Q S k (l.setIfInBounds i true) a' w') a w
theorem anyS_in : ∀ (k : Nat) (l : Array Bool) (a : Act) (w : World), anyS n P md ops Q S k l a w → wpAnyIn Fence.wide n P md ops Q k l a w
  | 0, _, _, _, h => h
  | k + 1, _, _, _, h => ⟨h.1, fun i hi => wpOpIn_mono (fun a' w' h' => anyS_in k _ a' w' h'.2) (h.2 i hi)⟩
/-- what is left of an operation's question at the wide fence, at a result r -/
theorem semWide (o : Oper) (a : Act) : o.semAt Fence.wide.round a.eval = execOp a.eval o := rfl
theorem opIn_swap {j : Nat} {oi oj : Oper} {v : Value} (hj : ops[j]? = some oj) (hap : oi.apart ops oj = true) (hsi : ∀ cs b, oi.op ≠ .select cs b) (hsj : ∀ cs b, oj.op ≠ .select cs b)
    (hQ : ∀ c a w, Q (.panic c) (a.put oi.dst v) w → Q (.panic c) a w) {K : Act → World → Prop} {a : Act} {w : World} (hy : YieldsIf P ops S oi v a) (h : wpOpIn Fence.wide n P ops Q j K (a.put oi.dst v) w) :
    wpOpIn Fence.wide n P ops Q j (fun a' w' => YieldsIf P ops S oi v a' ∧ K (a'.put oi.dst v) w') a w := by
  obtain ⟨p1, p2, p3⟩ := Oper.apart_spec hap
  have stay : ∀ (b : Act) u, YieldsIf P ops S oi v b → YieldsIf P ops S oi v (b.put oj.dst u) := fun b u hb => hb.of_same (execOp_put oi hsi b oj.dst u p3) (wanted_put oi b oj.dst u p3)
  have both : ∀ u w', K ((a.put oi.dst v).put oj.dst u) w' → YieldsIf P ops S oi v (a.put oj.dst u) ∧ K ((a.put oj.dst u).put oi.dst v) w' := fun u w' hk => ⟨stay a u hy, by rw [← Act.put_comm a v u p2]; exact hk⟩
  unfold wpOpIn at *
  rw [hj] at h ⊢
  simp only at h ⊢
  rw [wanted_put oj a oi.dst v p1] at h
  by_cases hw : Region.wanted oj (yielded ops a.tmps) = true
  · rw [if_pos hw] at h ⊢
    unfold Oper.wpIn at *
    refine ⟨fun _ _ => trivial, ?_⟩
    have h := h.2
    rw [semWide, execOp_put oj hsj a oi.dst v p1] at h
    rw [semWide]
    generalize (execOp a.eval oj).run P w = r at *
    cases r with
    | halt x w' => cases x <;> first | exact hQ _ _ _ h | exact h
    | ok x w' =>
      cases x with
      | value u => exact both u w' h
      | skip => exact both _ w' h
      | defer d =>
        refine ⟨stay _ _ (hy.of_same rfl rfl), ?_⟩
        rw [← Act.put_comm _ v undef p2, ← Act.put_defers]
        exact h
      | enter f args =>
        refine ⟨h.1, CallsIn.mono h.2 (fun e w2 he => ?_)⟩
        cases e with
        | returned u => exact both u w2 he
        | panicked c => exact hQ _ _ _ he
        | outgrown => exact he
      | row row args => exact ⟨h.1, RowsIn.mono h.2 (fun u w2 he => both u w2 he)⟩
      | round l f tmps assign body =>
        refine ⟨h.1, RoundIn.mono h.2 (fun e w2 he => ?_)⟩
        cases e with
        | returned u => exact both u w2 he
        | panicked c => exact hQ _ _ _ he
        | outgrown => exact he
      | _ => exact h
  · rw [if_neg hw] at h ⊢
    exact ⟨fun _ _ => trivial, both _ _ h.2⟩
theorem anyS_now {i : Nat} {oi : Oper} {v : Value} {a : Act} {w : World} (hi : ops[i]? = some oi) (hy : YieldsIf P ops S oi v a) (hS : S w) {K : Act → World → Prop} (h : K (a.put oi.dst v) w) : wpOpIn Fence.wide n P ops Q i K a w := by
  unfold wpOpIn
  rw [hi]
  rcases hy with ⟨hw, hv⟩ | ⟨hw, rfl⟩
  · simp only [hw, if_true, Oper.wpIn, semWide, hv w hS]
    exact ⟨fun _ _ => trivial, h⟩
  · simp only [hw, Bool.false_eq_true, if_false]
    exact ⟨fun _ _ => trivial, h⟩
theorem anyS_first {i : Nat} {oi : Oper} {v : Value} (hi : ops[i]? = some oi) (hsel : ∀ (j : Nat) (o : Oper) cs b, ops[j]? = some o → o.op ≠ .select cs b) (hQ : ∀ c a w, Q (.panic c) (a.put oi.dst v) w → Q (.panic c) a w) (k : Nat) :
    ∀ (l : Array Bool) (a : Act) (w : World), (∀ j oj, ops[j]? = some oj → j ≠ i → l.getD j true = false → (∀ e ∈ oj.after, Region.binds md e = true → e.on ≠ i) → oi.apart ops oj = true) → i ∈ Region.ready md ops l → YieldsIf P ops S oi v a → S w → anyS n P md ops Q S k (l.setIfInBounds i true) (a.put oi.dst v) w → anyS n P md ops Q S (k + 1) l a w := by
  induction k with
  | zero =>
    intro l a w _ hr hy hS H
    refine ⟨fun h => absurd hr (by rw [h]; simp), fun j hj => ?_⟩
    by_cases e : j = i
    · subst e; exact anyS_now hi hy hS ⟨hS, H⟩
    · exact absurd (ready_mono hj e) (by rw [H.1]; simp)
  | succ k ih =>
    intro l a w hfree hr hy hS H
    refine ⟨fun h => absurd hr (by rw [h]; simp), fun j hj => ?_⟩
    by_cases e : j = i
    · subst e; exact anyS_now hi hy hS ⟨hS, H⟩
    · obtain ⟨hjun, oj, hoj, hall⟩ := mem_ready.1 hj
      have hno : ∀ e ∈ oj.after, Region.binds md e = true → e.on ≠ i := by
        intro x hx hb hxi
        have y1 := hall x hx hb
        have y0 := (mem_ready.1 hr).1
        rw [hxi] at y1
        rcases Nat.lt_or_ge i l.size with z | z
        · simp [z] at y0 y1; rw [y0] at y1; cases y1
        · simp [Array.getElem?_eq_none z] at y1
      refine wpOpIn_mono ?_ (opIn_swap hoj (hfree j oj hoj e hjun hno) (fun cs b => hsel i oi cs b hi) (fun cs b => hsel j oj cs b hoj) hQ hy (H.2 j (ready_mono hj e)))
      rintro a' w' ⟨y1, y2, y3⟩
      refine ⟨y2, ih (l.setIfInBounds j true) a' w' ?_ (ready_mono hr (Ne.symm e)) y1 y2 ?_⟩
      · intro t ot ht hti hun hno'
        refine hfree t ot ht hti ?_ hno'
        by_cases z : j = t
        · subst z; exact hjun
        · rw [getD_set_ne true z] at hun; exact hun
      · rw [Array.setIfInBounds_comm _ _ e]; exact y3
theorem anyS_take {i : Nat} {oi : Oper} {v : Value} {k : Nat} {l : Array Bool} {a : Act} {w : World} (hi : ops[i]? = some oi) (hs : Region.noSelect ops = true) (hf : Region.free md ops l i = true) (hr : (Region.ready md ops l).contains i = true)
    (hQ : ∀ c a w, Q (.panic c) (a.put oi.dst v) w → Q (.panic c) a w) (hy : YieldsIf P ops S oi v a) (hS : S w) (h : anyS n P md ops Q S k (l.setIfInBounds i true) (a.put oi.dst v) w) : anyS n P md ops Q S (k + 1) l a w :=
  anyS_first hi (Region.noSelect_spec hs) hQ k l a w (Region.free_spec hi hf) (by simpa using hr) hy hS h
theorem anyS_one {i : Nat} {o : Oper} {k : Nat} {l : Array Bool} {a : Act} {w : World} (hr : Region.ready md ops l = [i]) (ho : ops[i]? = some o) (hw : Region.wanted o (yielded ops a.tmps) = true) (h : ∀ K : Act → World → Prop, (∀ a' w', S w' ∧ anyS n P md ops Q S k (l.setIfInBounds i true) a' w' → K a' w') → o.wpIn Fence.wide n P a w K Q) : anyS n P md ops Q S (k + 1) l a w := by
  refine ⟨fun h0 => absurd (hr.symm.trans h0) (by simp), fun j hj => ?_⟩
  rw [hr] at hj
  simp at hj
  subst hj
  unfold wpOpIn
  rw [ho]
  simp only [hw, if_true]
  exact h _ (fun a' w' h' => h')
theorem anyS_done {l : Array Bool} {a : Act} {w : World} (hr : Region.ready md ops l = []) (h : Q .normal a w) : ∀ k, anyS n P md ops Q S k l a w
  | 0 => ⟨hr, h⟩
  | _ + 1 => ⟨fun _ => h, by rw [hr]; simp⟩
theorem round_anyS {L id : Nat} {a : Act} {w : World} (hm : P.follows .mixedOrders = true) (hd : noDefer ops = true) (h : anyS n P .any ops Q S ops.size (Array.replicate ops.size false) a w.drew) : (Code.region id ops true).wpIn (Fence.wide.inRound L) n P Q a w :=
  round_any hm hd (anyS_in _ _ _ _ h)
end
end Go.Proofs.Ytaebnnkhjlidiaa.W
