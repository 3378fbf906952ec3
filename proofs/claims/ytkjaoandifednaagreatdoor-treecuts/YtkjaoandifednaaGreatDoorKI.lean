import Derived.Test.YtkjaoandifednaaGreatDoorJM
import Derived.Test.YtkjaoandifednaaGreatDoorKH
import Derived.Test.YtkjaoandifednaaGreatDoorKA
/- Chapter 12 in plain words: a fault's place; what stands behind a source that is right. -/
namespace Go.Proofs.YtkjaoandifednaaGreatDoor.W.Tr
set_option linter.unusedVariables false
set_option linter.unusedSimpArgs false
/-- no token and no fault stands behind N -/
def Ful (N : Int) (s : Cs) : Prop := 0 ≤ N ∧ ∀ y ∈ s.r, (y.c = 0 → y.a ≤ N) ∧ (y.c ≠ 0 → y.f ≤ N)
/-- what is left is the end of what was there; a fault stands at no more than N -/
def Bn (N : Int) {α : Type} (x : Pm α) : Prop := ∀ s r, Ful N s → x s = some r → (∀ f, r = .error f → f.2 ≤ N) ∧ ∀ a s', r = .ok (a, s') → s'.r <:+ s.r
theorem Ful.suf {N : Int} {s s' : Cs} (h : Ful N s) (hs : s'.r <:+ s.r) : Ful N s' := ⟨h.1, fun y hy => h.2 y (hs.subset hy)⟩
section
variable {α β : Type} {N : Int} {s : Cs} {y : Yd}
theorem Bn.bind {x : Pm α} {f : α → Pm β} (h : Bn N x) (g : ∀ a, Bn N (f a)) : Bn N (x.bind f) := by
  intro s r hs e
  rcases bind_inv e with ⟨q, h1, rfl⟩ | ⟨a, s', h1, h2⟩
  · exact ⟨fun f' hf => (h s _ hs h1).1 _ (by cases hf; rfl), fun a s' hh => by cases hh⟩
  · have hsuf := (h s _ hs h1).2 a s' rfl
    obtain ⟨k1, k2⟩ := g a s' r (hs.suf hsuf) h2
    exact ⟨k1, fun b s2 hh => (k2 b s2 hh).trans hsuf⟩
theorem Bn.pure (a : α) : Bn N (Pm.pure a) := by
  intro s r hs e
  have := pure_inv e
  subst this
  exact ⟨fun f hf => (by cases hf), fun b s' hh => by cases hh; exact List.suffix_refl _⟩
theorem Bn.ite {c : Prop} [Decidable c] {x y : Pm α} (h : Bn N x) (g : Bn N y) : Bn N (if c then x else y) := by
  split
  · exact h
  · exact g
theorem look_mem (h : look s = .ok y) : y ∈ s.r ∧ y.c = 0 ∧ s.r = y :: s.r.tail := by
  unfold look at h
  cases hr : s.r with
  | nil => rw [hr] at h; cases h
  | cons z l =>
    rw [hr] at h
    simp only at h
    by_cases c : z.c = 0
    · rw [if_pos c] at h
      split at h
      · cases h
      · cases h
        exact ⟨by simp, c, rfl⟩
    · rw [if_neg c] at h
      cases h
theorem look_bad {f : Flt} (hs : Ful N s) (h : look s = .error f) : f.2 ≤ N := by
  unfold look at h
  cases hr : s.r with
  | nil => rw [hr] at h; cases h; exact hs.1
  | cons z l =>
    rw [hr] at h
    simp only at h
    have hz := hs.2 z (by rw [hr]; simp)
    by_cases c : z.c = 0
    · rw [if_pos c] at h
      split at h
      · cases h; exact hz.1 c
      · cases h
    · rw [if_neg c] at h
      cases h
      exact hz.2 c
theorem Bn.look : Bn N lookM := by
  intro s r hs e
  unfold lookM at e
  cases hl : Tr.look s with
  | error q =>
    rw [hl] at e
    cases e
    exact ⟨fun f hf => (by cases hf; exact look_bad hs hl), fun b s' hh => by cases hh⟩
  | ok y =>
    rw [hl] at e
    cases e
    exact ⟨fun f hf => (by cases hf), fun b s' hh => by cases hh; exact List.suffix_refl _⟩
theorem Bn.take : Bn N takeM := by
  intro s r hs e
  unfold takeM at e
  cases hl : Tr.look s with
  | error q =>
    rw [hl] at e
    cases e
    exact ⟨fun f hf => (by cases hf; exact look_bad hs hl), fun b s' hh => by cases hh⟩
  | ok y =>
    rw [hl] at e
    cases e
    exact ⟨fun f hf => (by cases hf), fun b s' hh => by cases hh; exact List.tail_suffix _⟩
/-- a token of the right kind, or a fault at it -/
theorem Bn.if {p : Yd → Prop} [DecidablePred p] : Bn N (lookM.bind fun y => if p y then takeM else failM (70, y.a)) := by
  intro s r hs e
  rcases look_inv e with ⟨q, h1, rfl⟩ | ⟨y, h1, h2⟩
  · exact ⟨fun f hf => (by cases hf; exact look_bad hs h1), fun b s' hh => by cases hh⟩
  · by_cases c : p y
    · rw [if_pos c] at h2
      exact Bn.take s r hs h2
    · rw [if_neg c] at h2
      cases h2
      have hm := look_mem h1
      exact ⟨fun f hf => (by cases hf; exact (hs.2 y hm.1).1 hm.2.1), fun b s' hh => by cases hh⟩
theorem Bn.want (t : ByteArray) : Bn N (wantM t) := Bn.if (p := fun y => fixedT y.t = t)
theorem Bn.name : Bn N nameM := Bn.if (p := fun y => y.t.kind = 1)
theorem Bn.st : Bn N stM := by
  intro s r hs e
  cases e
  exact ⟨fun f hf => (by cases hf), fun b s' hh => by cases hh; exact List.suffix_refl _⟩
end
theorem bn_all (N : Int) : ∀ n nt, Bn N (P n nt)
  | 0, nt => by intro s r hs e; cases e
  | n + 1, nt => by
    have ih := bn_all N n
    cases nt <;> unfold P
    case pl =>
      refine Bn.bind (ih _) fun f => Bn.bind Bn.look fun z => ?_
      cases f with
      | nil => exact Bn.pure _
      | cons m ks r => exact Bn.ite (ih _) (Bn.ite (ih _) (Bn.bind (Bn.want _) fun _ => Bn.pure _))
    all_goals (repeat (first | with_reducible exact ih _ | with_reducible exact Bn.pure _ | with_reducible exact Bn.look | with_reducible exact Bn.take | with_reducible exact Bn.want _ | with_reducible exact Bn.name | with_reducible exact Bn.st | (with_reducible refine Bn.bind ?_ (fun _ => ?_)) | (with_reducible refine Bn.ite ?_ ?_)))
/-! ### what stands behind -/
/-- the same tokens ahead, X behind the one, Y behind the other -/
def Sm (X Y : List Yd) (s t : Cs) : Prop := ∃ L, s.r = L ++ X ∧ t.r = L ++ Y ∧ s.o = t.o ∧ ∀ y ∈ L, y.c = 0 ∧ y.t.kind ≠ 7
/-- what goes well ahead of X goes the same ahead of Y -/
def Tm (X Y : List Yd) {α : Type} (x : Pm α) : Prop := (∀ s a s', x s = some (.ok (a, s')) → s'.r.length ≤ s.r.length) ∧ ∀ s t a s', Sm X Y s t → x s = some (.ok (a, s')) → X.length < s'.r.length → ∃ t', x t = some (.ok (a, t')) ∧ Sm X Y s' t'
theorem bind_ok {α β : Type} {x : Pm α} {f : α → Pm β} {s s' : Cs} {a : α} (h : x s = some (.ok (a, s'))) : x.bind f s = f a s' := by
  unfold Pm.bind
  rw [h]
section
variable {α β : Type} {X Y : List Yd} {s t s' : Cs} {y : Yd}
theorem Sm.more (h : Sm X Y s t) (hl : X.length < s.r.length) : ∃ z L, s.r = z :: (L ++ X) ∧ t.r = z :: (L ++ Y) ∧ s.o = t.o ∧ z.c = 0 ∧ z.t.kind ≠ 7 ∧ ∀ y ∈ L, y.c = 0 ∧ y.t.kind ≠ 7 := by
  obtain ⟨L, h1, h2, h3, h4⟩ := h
  cases L with
  | nil => rw [h1] at hl; simp at hl
  | cons z L => exact ⟨z, L, h1, h2, h3, (h4 z (by simp)).1, (h4 z (by simp)).2, fun y hy => h4 y (by simp [hy])⟩
theorem Sm.look (h : Sm X Y s t) (hl : X.length < s.r.length) : look t = look s := by
  obtain ⟨z, L, h1, h2, h3, _⟩ := h.more hl
  unfold Tr.look
  rw [h1, h2, h3]
theorem Sm.behind (h : Sm X Y s t) (hl : X.length < s.r.length) : Sm X Y (behind y s) (behind y t) := by
  obtain ⟨z, L, h1, h2, h3, _, _, h4⟩ := h.more hl
  exact ⟨L, by simp [Tr.behind, h1], by simp [Tr.behind, h2], by simp [Tr.behind, h3], h4⟩
theorem Tm.bind {x : Pm α} {f : α → Pm β} (h : Tm X Y x) (g : ∀ a, Tm X Y (f a)) : Tm X Y (x.bind f) := by
  constructor
  · intro s b s2 e
    rcases bind_inv e with ⟨q, h1, h2⟩ | ⟨a, s1, h1, h2⟩
    · cases h2
    · exact Nat.le_trans ((g a).1 s1 b s2 h2) (h.1 s a s1 h1)
  · intro s t b s2 hS e hl
    rcases bind_inv e with ⟨q, h1, h2⟩ | ⟨a, s1, h1, h2⟩
    · cases h2
    · obtain ⟨t1, k1, k2⟩ := h.2 s t a s1 hS h1 (Nat.lt_of_lt_of_le hl ((g a).1 s1 b s2 h2))
      rw [bind_ok k1]
      exact (g a).2 s1 t1 b s2 k2 h2 hl
theorem Tm.pure (a : α) : Tm X Y (Pm.pure a) := by
  constructor
  · intro s b s2 e
    cases e
    exact Nat.le_refl _
  · intro s t b s2 hS e hl
    cases e
    exact ⟨t, rfl, hS⟩
theorem Tm.fail (f : Flt) : Tm X Y (failM f : Pm α) := by
  constructor
  · intro s b s2 e
    cases e
  · intro s t b s2 hS e hl
    cases e
theorem Tm.ite {c : Prop} [Decidable c] {x y : Pm α} (h : Tm X Y x) (g : Tm X Y y) : Tm X Y (if c then x else y) := by
  split
  · exact h
  · exact g
theorem lookM_ok {b : Yd} (e : lookM s = some (.ok (b, s'))) : Tr.look s = .ok b ∧ s' = s := by
  unfold lookM at e
  cases hl : Tr.look s with
  | error q => rw [hl] at e; cases e
  | ok y => rw [hl] at e; cases e; exact ⟨rfl, rfl⟩
theorem takeM_ok {b : Yd} (e : takeM s = some (.ok (b, s'))) : Tr.look s = .ok b ∧ s' = behind b s := by
  unfold takeM at e
  cases hl : Tr.look s with
  | error q => rw [hl] at e; cases e
  | ok y => rw [hl] at e; cases e; exact ⟨rfl, rfl⟩
theorem Tm.look : Tm X Y lookM := by
  constructor
  · intro s b s2 e
    rw [(lookM_ok e).2]
    exact Nat.le_refl _
  · intro s t b s2 hS e hl
    obtain ⟨h1, rfl⟩ := lookM_ok e
    exact ⟨t, by unfold lookM; rw [hS.look hl, h1], hS⟩
theorem take_len {b : Yd} (e : takeM s = some (.ok (b, s'))) : s'.r.length < s.r.length := by
  obtain ⟨h1, rfl⟩ := takeM_ok e
  exact behind_lt h1
theorem take_go {b : Yd} (hS : Sm X Y s t) (e : takeM s = some (.ok (b, s'))) (hl : X.length ≤ s'.r.length) : ∃ t', takeM t = some (.ok (b, t')) ∧ Sm X Y s' t' := by
  have hl2 := Nat.lt_of_le_of_lt hl (take_len e)
  obtain ⟨h1, rfl⟩ := takeM_ok e
  exact ⟨Tr.behind b t, by unfold takeM; rw [hS.look hl2, h1], hS.behind hl2⟩
theorem Tm.take : Tm X Y takeM := ⟨fun s b s2 e => Nat.le_of_lt (take_len e), fun s t b s2 hS e hl => take_go hS e (Nat.le_of_lt hl)⟩
theorem Tm.want (t : ByteArray) : Tm X Y (wantM t) := Tm.bind Tm.look fun y => Tm.ite Tm.take (Tm.fail _)
theorem Tm.name : Tm X Y nameM := Tm.bind Tm.look fun y => Tm.ite Tm.take (Tm.fail _)
/-- a label, or none -/
theorem Tm.label {n : Nat} (h1 : Tm X Y (P n .lb)) (h2 : Tm X Y (P n .pl)) (p : Prop) [Decidable p] : Tm X Y (stM.bind fun s => if p ∧ colon s = true then P n .lb else P n .pl) := by
  constructor
  · intro s b s2 e
    have e' : (if p ∧ colon s = true then P n .lb else P n .pl) s = some (.ok (b, s2)) := e
    split at e'
    · exact h1.1 s b s2 e'
    · exact h2.1 s b s2 e'
  · intro s t b s2 hS e hl
    have e' : (if p ∧ colon s = true then P n .lb else P n .pl) s = some (.ok (b, s2)) := e
    have hlen : s2.r.length + 1 ≤ s.r.length := by
      split at e'
      · exact P_le e'
      · exact P_le e'
    have hc : colon t = colon s := by
      obtain ⟨z, L, k1, k2, _⟩ := hS.more (by omega)
      rw [k1] at hlen
      cases L with
      | nil => simp at hlen; omega
      | cons z2 L => unfold colon; rw [k1, k2]; rfl
    show ∃ t', (if p ∧ colon t = true then P n .lb else P n .pl) t = _ ∧ _
    rw [hc]
    split at e'
    · rename_i c
      rw [if_pos c]
      exact h1.2 s t b s2 hS e' hl
    · rename_i c
      rw [if_neg c]
      exact h2.2 s t b s2 hS e' hl
end
theorem tm_all (X Y : List Yd) : ∀ n nt, Tm X Y (P n nt)
  | 0, nt => ⟨fun s a s' e => (by cases e), fun s t a s' _ e => (by cases e)⟩
  | n + 1, nt => by
    have ih := tm_all X Y n
    cases nt <;> unfold P
    case pl =>
      refine Tm.bind (ih _) fun f => Tm.bind Tm.look fun z => ?_
      cases f with
      | nil => exact Tm.pure _
      | cons m ks r => exact Tm.ite (ih _) (Tm.ite (ih _) (Tm.bind (Tm.want _) fun _ => Tm.pure _))
    all_goals (repeat (first | with_reducible exact ih _ | with_reducible exact Tm.pure _ | with_reducible exact Tm.look | with_reducible exact Tm.take | with_reducible exact Tm.want _ | with_reducible exact Tm.name | with_reducible exact Tm.label (ih _) (ih _) _ | (with_reducible refine Tm.bind ?_ (fun _ => ?_)) | (with_reducible refine Tm.ite ?_ ?_)))
/-- what ends with a token that it takes -/
def Tl (X Y : List Yd) {α : Type} (x : Pm α) : Prop := (∀ s a s', x s = some (.ok (a, s')) → s'.r.length < s.r.length) ∧ ∀ s t a s', Sm X Y s t → x s = some (.ok (a, s')) → X.length ≤ s'.r.length → ∃ t', x t = some (.ok (a, t')) ∧ Sm X Y s' t'
section
variable {α β : Type} {X Y : List Yd} {s t s' : Cs} {y : Yd}
theorem Tl.bind {x : Pm α} {f : α → Pm β} (h : Tm X Y x) (g : ∀ a, Tl X Y (f a)) : Tl X Y (x.bind f) := by
  constructor
  · intro s b s2 e
    rcases bind_inv e with ⟨q, h1, h2⟩ | ⟨a, s1, h1, h2⟩
    · cases h2
    · exact Nat.lt_of_lt_of_le ((g a).1 s1 b s2 h2) (h.1 s a s1 h1)
  · intro s t b s2 hS e hl
    rcases bind_inv e with ⟨q, h1, h2⟩ | ⟨a, s1, h1, h2⟩
    · cases h2
    · obtain ⟨t1, k1, k2⟩ := h.2 s t a s1 hS h1 (Nat.lt_of_le_of_lt hl ((g a).1 s1 b s2 h2))
      rw [bind_ok k1]
      exact (g a).2 s1 t1 b s2 k2 h2 hl
theorem Tl.ret {x : Pm α} (g : α → β) (h : Tl X Y x) : Tl X Y (x.bind fun a => Pm.pure (g a)) := by
  constructor
  · intro s b s2 e
    rcases bind_inv e with ⟨q, h1, h2⟩ | ⟨a, s1, h1, h2⟩
    · cases h2
    · cases h2
      exact h.1 s a _ h1
  · intro s t b s2 hS e hl
    rcases bind_inv e with ⟨q, h1, h2⟩ | ⟨a, s1, h1, h2⟩
    · cases h2
    · cases h2
      obtain ⟨t1, k1, k2⟩ := h.2 s t a _ hS h1 hl
      rw [bind_ok k1]
      exact ⟨t1, rfl, k2⟩
theorem Tl.ite {c : Prop} [Decidable c] {x y : Pm α} (h : Tl X Y x) (g : Tl X Y y) : Tl X Y (if c then x else y) := by
  split
  · exact h
  · exact g
theorem Tl.fail (f : Flt) : Tl X Y (failM f : Pm α) := by
  constructor
  · intro s b s2 e
    cases e
  · intro s t b s2 hS e hl
    cases e
theorem Tl.take : Tl X Y takeM := ⟨fun s b s2 e => take_len e, fun s t b s2 hS e hl => take_go hS e hl⟩
theorem Tl.want (t : ByteArray) : Tl X Y (wantM t) := Tl.bind Tm.look fun y => Tl.ite Tl.take (Tl.fail _)
end
theorem tl_blT (X Y : List Yd) : ∀ n l, Tl X Y (P n (.blT l))
  | 0, l => ⟨fun s a s' e => (by cases e), fun s t a s' _ e => (by cases e)⟩
  | n + 1, l => by
    unfold P
    exact Tl.bind Tm.look fun y => Tl.ite (Tl.ret _ (Tl.want _)) (Tl.bind (tm_all X Y n _) fun x => tl_blT X Y n _)
theorem tl_bl (X Y : List Yd) : ∀ n, Tl X Y (P n .bl)
  | 0 => ⟨fun s a s' e => (by cases e), fun s t a s' _ e => (by cases e)⟩
  | n + 1 => by
    unfold P
    exact Tl.bind (Tm.want _) fun y => Tl.ret _ (tl_blT X Y n _)
theorem tl_fu (X Y : List Yd) : ∀ n, Tl X Y (P n .fu)
  | 0 => ⟨fun s a s' e => (by cases e), fun s t a s' _ e => (by cases e)⟩
  | n + 1 => by
    unfold P
    exact Tl.bind (Tm.want _) fun _ => Tl.bind Tm.name fun y => Tl.bind (tm_all X Y n _) fun l => Tl.ret _ (tl_bl X Y n)
theorem tl_gl (X Y : List Yd) : ∀ n, Tl X Y (P n .gl)
  | 0 => ⟨fun s a s' e => (by cases e), fun s t a s' _ e => (by cases e)⟩
  | n + 1 => by
    unfold P
    exact Tl.bind (Tm.want _) fun _ => Tl.bind Tm.name fun y => Tl.ret _ (Tl.want _)
theorem pg_len {n : Nat} {l : Fo} {s : Cs} {r : Fo × Cs} (h : P n (.pg l) s = some (.ok r)) : 1 ≤ s.r.length := by
  cases n with
  | zero => cases h
  | succ n =>
    unfold P at h
    rcases look_inv h with ⟨q, h1, h2⟩ | ⟨y, h1, h2⟩
    · cases h2
    · rw [(look_mem h1).2.2]; simp
/-- the last token was met -/
theorem pg_last : ∀ (n : Nat) (l : Fo) (s : Cs) (r : Fo × Cs), P n (.pg l) s = some (.ok r) → ∃ y ∈ s.r, y.c = 0 ∧ y.t.kind = 7
  | 0, l, s, r, h => by cases h
  | n + 1, l, s, r, h => by
    unfold P at h
    rcases look_inv h with ⟨q, h1, h2⟩ | ⟨y, h1, h2⟩
    · cases h2
    · have hm := look_mem h1
      by_cases c : y.t.kind = 7
      · exact ⟨y, hm.1, hm.2.1, c⟩
      · rw [if_neg c] at h2
        rcases bind_inv h2 with ⟨q, k1, k2⟩ | ⟨x, s1, k1, k2⟩
        · cases k2
        · obtain ⟨z, hz, hz2⟩ := pg_last n _ s1 r k2
          obtain ⟨N, hN⟩ : ∃ N : Int, Ful N s := by
            have : ∀ L : List Yd, ∃ N : Int, 0 ≤ N ∧ ∀ y ∈ L, (y.c = 0 → y.a ≤ N) ∧ (y.c ≠ 0 → y.f ≤ N) := by
              intro L
              induction L with
              | nil => exact ⟨0, by omega, by simp⟩
              | cons u L ih =>
                obtain ⟨N, h0, h⟩ := ih
                refine ⟨max N (max u.a u.f), by omega, fun y hy => ?_⟩
                rcases List.mem_cons.1 hy with rfl | hy
                · exact ⟨fun _ => by omega, fun _ => by omega⟩
                · exact ⟨fun e => by have := (h y hy).1 e; omega, fun e => by have := (h y hy).2 e; omega⟩
            exact this s.r
          exact ⟨z, ((bn_all N n _ s _ hN k1).2 x s1 rfl).subset hz, hz2⟩
/-- a right source with something else behind it -/
theorem pg_other (e : Yd) (Y : List Yd) (F : Flt) (hY : ∀ o l, P 2 (.pg l) ⟨Y, o⟩ = some (.error F)) : ∀ (n : Nat) (L : List Yd) (o : Int) (l : Fo) (r : Fo × Cs), (∀ y ∈ L, y.c = 0 ∧ y.t.kind ≠ 7) → P n (.pg l) ⟨L ++ [e], o⟩ = some (.ok r) → ∃ m, P m (.pg l) ⟨L ++ Y, o⟩ = some (.error F)
  | 0, L, o, l, r, hL, h => by cases h
  | n + 1, [], o, l, r, hL, h => ⟨2, hY o l⟩
  | n + 1, z :: L, o, l, r, hL, h => by
    have hS : Sm [e] Y ⟨z :: L ++ [e], o⟩ ⟨z :: L ++ Y, o⟩ := ⟨z :: L, rfl, rfl, rfl, hL⟩
    have hlk := hS.look (by simp)
    unfold P at h
    rcases look_inv h with ⟨q, h1, h2⟩ | ⟨y, h1, h2⟩
    · cases h2
    · have hyz : y = z := by
        have := (look_mem h1).2.2
        injection this with e1
        exact e1.symm
      subst hyz
      have hk := (hL y (by simp)).2
      rw [if_neg hk] at h2
      rcases bind_inv h2 with ⟨q, k1, k2⟩ | ⟨x, s1, k1, k2⟩
      · cases k2
      · have hT : Tl [e] Y (P n (if fixedT y.t = k_let then .gl else .fu)) := by
          split
          · exact tl_gl _ _ n
          · exact tl_fu _ _ n
        obtain ⟨t1, j1, L1, j2, j3, j4, j5⟩ := hT.2 _ _ x s1 hS k1 (pg_len k2)
        have es : s1 = ⟨L1 ++ [e], s1.o⟩ := by rw [← j2]
        have et : t1 = ⟨L1 ++ Y, s1.o⟩ := by rw [← j3, j4]
        rw [es] at k2
        obtain ⟨m, hm⟩ := pg_other e Y F hY n L1 s1.o (l.app x) r j5 k2
        refine ⟨max n m + 1, ?_⟩
        unfold P
        have hl2 : lookM ⟨y :: L ++ Y, o⟩ = some (.ok (y, ⟨y :: L ++ Y, o⟩)) := by unfold lookM; rw [hlk, h1]
        rw [bind_ok hl2, if_neg hk, bind_ok (P_mono (Nat.le_max_left n m) _ _ _ j1), et]
        exact P_mono (Nat.le_max_right n m) _ _ _ hm
end Go.Proofs.YtkjaoandifednaaGreatDoor.W.Tr
/- Stage 12, TreeCuts, in plain words: a right source with a token behind it that is none, with a bracket behind it, and its beginnings. -/
namespace Go.Proofs.YtkjaoandifednaaGreatDoor.W
set_option linter.unusedVariables false
def K7 (p : Pc) : Prop := p.t.kind ≠ 7
theorem k7_no : K7 noPc := by unfold K7; decide
theorem k7_bad (n : Nat) (c : Int) : K7 (badPc n c) := by show (0 : Int) ≠ 7; decide
theorem k7_or {a b : Pc} (ha : K7 a) (hb : K7 b) : K7 (orPc a b) := by
  unfold orPc
  split
  · exact hb
  · exact ha
theorem k7_quote : ∀ (f : Nat) (r : List UInt8) (k : Nat) (acc : List UInt8), K7 (quoteGo f r k acc)
  | 0, r, k, acc => by unfold quoteGo; exact k7_bad _ _
  | f + 1, [], k, acc => by rw [quote_end]; exact k7_bad _ _
  | f + 1, c :: q, k, acc => by
    by_cases c1 : c = 34
    · rw [quote_stop (f + 1) k c q acc (by omega) c1]
      show (6 : Int) ≠ 7
      decide
    · by_cases c2 : (speltP (c :: q)).2 = 0
      · rw [quote_bad (f + 1) k c q acc (by omega) c1 c2]
        exact k7_bad _ _
      · rw [quote_on f k c q acc c1 c2]
        exact k7_quote f _ _ _
theorem piece_kind (r : List UInt8) : K7 (pieceP r) := by
  unfold pieceP
  refine k7_or (show (0 : Int) ≠ 7 by decide) (k7_or ?_ (k7_or ?_ (k7_or ?_ (k7_or ?_ ?_))))
  · unfold nameP
    split
    · exact k7_no
    · split
      · exact k7_bad _ _
      · unfold okPc K7 namedT
        dsimp only
        split
        · show (5 : Int) ≠ 7; decide
        · split
          · show (5 : Int) ≠ 7; decide
          · split
            · show (2 : Int) ≠ 7; decide
            · show (1 : Int) ≠ 7; decide
  · unfold doubleP
    split
    · split
      · show (5 : Int) ≠ 7; decide
      · exact k7_bad _ _
    · exact k7_no
  · unfold wholeP
    split
    · exact k7_no
    · split
      · show (4 : Int) ≠ 7; decide
      · exact k7_bad _ _
  · unfold quotedP
    split
    · rcases qd_cases (quoteGo r.length (r.drop 1) 1 []) with g | ⟨_, g⟩
      · rw [g]
        exact k7_quote _ _ _ _
      · rw [g]
        exact k7_bad _ _
    · exact k7_no
  · unfold markP
    split
    · show (3 : Int) ≠ 7; decide
    · exact k7_no
/-- the last token alone is of kind 7 -/
theorem T_kind (n : Nat) : ∀ (r : List UInt8) (a : Nat) (ts : List Yd) (z : Yd), r.length ≤ n → T r a = ts ++ [z] → ∀ y ∈ ts, y.t.kind ≠ 7 := by
  have one : ∀ (ts : List Yd) (u z : Yd), [u] = ts ++ [z] → ts = [] := by
    intro ts u z e
    have := congrArg List.length e
    simp at this
    exact this
  induction n with
  | zero =>
    intro r a ts z hr e y hy
    have hr0 : r = [] := List.eq_nil_of_length_eq_zero (by omega)
    subst hr0
    rw [T_nil] at e
    rw [one ts _ z e] at hy
    cases hy
  | succ n ih =>
    intro r a ts z hr e y hy
    cases r with
    | nil => exact ih [] a ts z (by simp) e y hy
    | cons c r =>
      rw [T_step (by simp)] at e
      have hdl : ¬ (pieceP (c :: r)).size = 0 → ((c :: r).drop (pieceP (c :: r)).size).length ≤ n := fun h => by rw [List.length_drop]; simp at hr ⊢; omega
      split at e
      · rw [one ts _ z e] at hy
        cases hy
      · rename_i c1
        split at e
        · rw [one ts _ z e] at hy
          cases hy
        · split at e
          · cases ts with
            | nil => cases hy
            | cons u ts =>
              rw [List.cons_append] at e
              injection e with e1 e2
              rcases List.mem_cons.1 hy with rfl | hy
              · rw [← e1]; exact piece_kind _
              · exact ih _ _ ts z (hdl c1) e2 y hy
          · exact ih _ _ ts z (hdl c1) e y hy
end Go.Proofs.YtkjaoandifednaaGreatDoor.W
namespace Go.Proofs.YtkjaoandifednaaGreatDoor.W.Tr
set_option linter.unusedVariables false
theorem right_form (l : List UInt8) (hl : l.length ≤ 6000) {r : Fo × Cs} (h : Ends l (.ok r)) : ∃ ts, Well (T l 0) ts (0 + l.length) ∧ (∀ y ∈ ts, y.c = 0 ∧ y.t.kind ≠ 7) ∧ ∃ n, P n (.pg .nil) ⟨ts ++ [⟨endTk, ((0 + l.length : Nat) : Int), 0, 0⟩], 0⟩ = some (.ok r) := by
  obtain ⟨n, h⟩ := h
  rw [src_T l (by omega)] at h
  obtain ⟨ts, z, e, h2, h3⟩ := T_form l.length l 0 (Nat.le_refl _)
  have hk := T_kind l.length l 0 ts z (Nat.le_refl _) e
  rw [e] at h
  have hz : z = ⟨endTk, ((0 + l.length : Nat) : Int), 0, 0⟩ := by
    rcases h3 with h3 | h3
    · exact h3
    · exfalso
      obtain ⟨y, hy, hy1, hy2⟩ := pg_last n _ _ _ h
      rcases List.mem_append.1 hy with hy | hy
      · exact hk y hy hy2
      · rw [List.mem_singleton.1 hy] at hy1
        exact h3.1 hy1
  rw [hz] at e h
  exact ⟨ts, ⟨e, fun y hy => (h2 y hy).1⟩, fun y hy => ⟨(h2 y hy).1, hk y hy⟩, n, h⟩
theorem other_form (l : List UInt8) (hl : l.length ≤ 6000) {r : Fo × Cs} (h : Ends l (.ok r)) (d : UInt8) (hd : d = 10 ∨ d = 32 ∧ NoRem l) (B : List UInt8) (hB : B.length ≤ 10) (F : Flt) (hY : ∀ o k, P 2 (.pg k) ⟨T B (l.length + 1), o⟩ = some (.error F)) : Ends (l ++ d :: B) (.error F) := by
  obtain ⟨ts, hw, ht, n, hn⟩ := right_form l hl h
  have e := T_and d l.length l B 0 ts hd (Nat.le_refl _) hw
  rw [Nat.zero_add] at e
  obtain ⟨m, hm⟩ := pg_other _ _ F hY n ts 0 .nil r ht hn
  refine ⟨m, ?_⟩
  rw [src_T _ (by simp; omega), e]
  exact hm
theorem cut_bad (l : List UInt8) (hl : l.length ≤ 6000) {r : Fo × Cs} (h : Ends l (.ok r)) (hn : NoRem l) : Ends (l ++ [32, 33]) (.error (60, ((l.length + 1 : Nat) : Int))) := by
  refine other_form l hl h 32 (.inr ⟨rfl, hn⟩) [33] (by simp) _ fun o k => ?_
  have e : T [33] (l.length + 1) = [⟨noTk, 0, 60, ((l.length + 1 : Nat) : Int)⟩] := by
    rw [T_step (by simp), if_pos (show (pieceP [33]).size = 0 by kernel_rfl)]
  rw [e]
  rfl
theorem cut_shut (l : List UInt8) (hl : l.length ≤ 6000) {r : Fo × Cs} (h : Ends l (.ok r)) : Ends (l ++ [10, 125]) (.error (70, ((l.length + 1 : Nat) : Int))) := by
  refine other_form l hl h 10 (.inl rfl) [125] (by simp) _ fun o k => ?_
  have hp : pieceP [125] = ⟨⟨3, k_rcu, 0, 0⟩, 1, 0⟩ := by kernel_rfl
  have e : T [125] (l.length + 1) = [⟨⟨3, k_rcu, 0, 0⟩, ((l.length + 1 : Nat) : Int), 0, 0⟩, ⟨endTk, ((l.length + 1 + 1 : Nat) : Int), 0, 0⟩] := by
    rw [T_step (by simp), hp]
    rfl
  rw [e]
  have ho : opensT ⟨3, k_rcu, 0, 0⟩ = false := by kernel_rfl
  have hl : ∀ L : List Yd, look ⟨⟨⟨3, k_rcu, 0, 0⟩, ((l.length + 1 : Nat) : Int), 0, 0⟩ :: L, o⟩ = .ok ⟨⟨3, k_rcu, 0, 0⟩, ((l.length + 1 : Nat) : Int), 0, 0⟩ := by
    intro L
    unfold look
    simp only [if_true, ho, Bool.false_eq_true, false_and, if_false]
  have hk : ∀ L : List Yd, lookM ⟨⟨⟨3, k_rcu, 0, 0⟩, ((l.length + 1 : Nat) : Int), 0, 0⟩ :: L, o⟩ = some (.ok (⟨⟨3, k_rcu, 0, 0⟩, ((l.length + 1 : Nat) : Int), 0, 0⟩, ⟨⟨⟨3, k_rcu, 0, 0⟩, ((l.length + 1 : Nat) : Int), 0, 0⟩ :: L, o⟩)) := by
    intro L
    unfold lookM
    rw [hl]
  have n1 : ¬ fixedT ⟨3, k_rcu, 0, 0⟩ = k_let := by decide
  have n2 : ¬ fixedT ⟨3, k_rcu, 0, 0⟩ = k_fn := by decide
  unfold P
  rw [bind_ok (hk _), if_neg (show ¬ (3 : Int) = 7 by decide), if_neg n1]
  unfold P
  unfold Pm.bind wantM
  rw [bind_ok (hk _), if_neg n2]
  rfl
theorem ends_at (l : List UInt8) (hl : l.length ≤ 6000) {f : Flt} (h : Ends l (.error f)) : f.2 ≤ ((l.length : Nat) : Int) := by
  obtain ⟨n, h⟩ := h
  rw [src_T l (by omega)] at h
  obtain ⟨ts, z, e, h2, h3⟩ := T_form l.length l 0 (Nat.le_refl _)
  rw [e] at h
  refine (bn_all (l.length : Nat) n _ _ _ ⟨by omega, fun y hy => ?_⟩ h).1 f rfl
  rcases List.mem_append.1 hy with hy | hy
  · have := h2 y hy
    exact ⟨fun _ => by have := this.2.2; omega, fun c => absurd this.1 c⟩
  · rw [List.mem_singleton.1 hy]
    rcases h3 with rfl | h3
    · exact ⟨fun _ => by show ((0 + l.length : Nat) : Int) ≤ _; omega, fun c => absurd rfl c⟩
    · exact ⟨fun c => absurd c h3.1, fun _ => by have := h3.2.2.2; omega⟩
end Go.Proofs.YtkjaoandifednaaGreatDoor.W.Tr
/- Chapter 12 in plain words: a fault has a number that is not 0. -/
namespace Go.Proofs.YtkjaoandifednaaGreatDoor.W.Tr
set_option linter.unusedVariables false
set_option linter.unusedSimpArgs false
/-- the tokens end with the last one, or with a fault -/
def Gd (s : Cs) : Prop := ∃ xs z, s.r = xs ++ [z] ∧ (z.c = 0 → z.t.kind = 7)
/-- whatever it comes to: no fault of number 0, and Q -/
def Wq {α : Type} (x : Pm α) (s : Cs) (Q : α → Cs → Prop) : Prop := ∀ r, x s = some r → (∀ f, r = .error f → f.1 ≠ 0) ∧ ∀ a s', r = .ok (a, s') → Q a s'
section
variable {α β : Type} {s : Cs}
theorem Wq.bind {x : Pm α} {f : α → Pm β} {Q : β → Cs → Prop} (h : Wq x s (fun a s' => Wq (f a) s' Q)) : Wq (x.bind f) s Q := by
  intro r e
  rcases bind_inv e with ⟨g, h1, rfl⟩ | ⟨a, s', h1, h2⟩
  · exact ⟨fun f' hf => (h _ h1).1 _ (by cases hf; rfl), fun a s' hh => by cases hh⟩
  · exact (h _ h1).2 a s' rfl r h2
theorem Wq.pure {a : α} {Q : α → Cs → Prop} (h : Q a s) : Wq (Pm.pure a) s Q := by
  intro r e
  have := pure_inv e
  subst this
  exact ⟨fun f hf => by (cases hf), fun b s' hh => by (cases hh; exact h)⟩
theorem Wq.fail {e : Flt} {Q : α → Cs → Prop} (h : e.1 ≠ 0) : Wq (failM e) s Q := by
  intro r e'
  have : r = .error e := (Option.some.inj e').symm
  subst this
  exact ⟨fun f hf => by (cases hf; exact h), fun b s' hh => by cases hh⟩
theorem look_gd (hg : Gd s) : (∃ e, look s = .error e ∧ e.1 ≠ 0) ∨ ∃ y, look s = .ok y := by
  obtain ⟨xs, z, hr, hz⟩ := hg
  unfold look
  cases hs : s.r with
  | nil => rw [hs] at hr; simp at hr
  | cons y ys =>
    simp only
    by_cases hc : y.c = 0
    · rw [if_pos hc]
      split
      · exact .inl ⟨_, rfl, show (71 : Int) ≠ 0 by decide⟩
      · exact .inr ⟨_, rfl⟩
    · rw [if_neg hc]
      exact .inl ⟨_, rfl, hc⟩
theorem Wq.look {Q : Yd → Cs → Prop} (hg : Gd s) (h : ∀ y, Tr.look s = .ok y → Q y s) : Wq lookM s Q := by
  intro r e
  unfold lookM at e
  rcases look_gd hg with ⟨f, h1, h2⟩ | ⟨y, h1⟩
  · rw [h1] at e
    have : r = .error f := (Option.some.inj e).symm
    subst this
    exact ⟨fun f' hf => by (cases hf; exact h2), fun b s' hh => by cases hh⟩
  · rw [h1] at e
    have : r = .ok (y, s) := (Option.some.inj e).symm
    subst this
    exact ⟨fun f' hf => by (cases hf), fun b s' hh => by (cases hh; exact h y h1)⟩
theorem gd_behind (hg : Gd s) {y : Yd} (hl : Tr.look s = .ok y) (hk : y.t.kind ≠ 7) : Gd (behind y s) := by
  obtain ⟨xs, z, hr, hz⟩ := hg
  cases xs with
  | nil =>
    exfalso
    unfold Tr.look at hl
    rw [hr] at hl
    simp only [List.nil_append] at hl
    by_cases hc : z.c = 0
    · rw [if_pos hc] at hl
      split at hl
      · cases hl
      · cases hl
        exact hk (hz hc)
    · rw [if_neg hc] at hl
      cases hl
  | cons x xs => exact ⟨xs, z, by simp [behind, hr], hz⟩
theorem Wq.take {Q : Yd → Cs → Prop} (hg : Gd s) (hk : ∀ y, Tr.look s = .ok y → y.t.kind ≠ 7) (h : ∀ y s', Gd s' → Q y s') : Wq takeM s Q := by
  intro r e
  unfold takeM at e
  rcases look_gd hg with ⟨f, h1, h2⟩ | ⟨y, h1⟩
  · rw [h1] at e
    have : r = .error f := (Option.some.inj e).symm
    subst this
    exact ⟨fun f' hf => by (cases hf; exact h2), fun b s' hh => by cases hh⟩
  · rw [h1] at e
    have : r = .ok (y, behind y s) := (Option.some.inj e).symm
    subst this
    exact ⟨fun f' hf => by (cases hf), fun b s' hh => by (cases hh; exact h y _ (gd_behind hg h1 (hk y h1)))⟩
theorem Wq.ite {c : Prop} [Decidable c] {x y : Pm α} {Q : α → Cs → Prop} (h : c → Wq x s Q) (g : ¬ c → Wq y s Q) : Wq (if c then x else y) s Q := by
  by_cases k : c
  · rw [if_pos k]; exact h k
  · rw [if_neg k]; exact g k
theorem fix_kind {t : Tk} {k : ByteArray} (h : fixedT t = k) (hk : k ≠ ⟨#[]⟩) : t.kind ≠ 7 := by
  intro e
  unfold fixedT at h
  rw [if_neg (by omega)] at h
  exact hk h.symm
theorem same_look {y : Yd} (h : Tr.look s = .ok y) {p : Yd → Prop} (hp : p y) : ∀ z, Tr.look s = .ok z → p z := by
  intro z hz
  rw [h] at hz
  cases hz
  exact hp
theorem Wq.want {t : ByteArray} {Q : Yd → Cs → Prop} (hg : Gd s) (ht : t ≠ ⟨#[]⟩) (h : ∀ y s', Gd s' → Q y s') : Wq (wantM t) s Q :=
  Wq.bind (Wq.look hg fun y hy => Wq.ite (fun hf => Wq.take hg (same_look hy (p := fun y => y.t.kind ≠ 7) (fix_kind hf ht)) h) (fun _ => Wq.fail (show (70 : Int) ≠ 0 by decide)))
theorem Wq.name {Q : Yd → Cs → Prop} (hg : Gd s) (h : ∀ y s', Gd s' → Q y s') : Wq nameM s Q :=
  Wq.bind (Wq.look hg fun y hy => Wq.ite (fun hf => Wq.take hg (same_look hy (p := fun y => y.t.kind ≠ 7) (by omega)) h) (fun _ => Wq.fail (show (70 : Int) ≠ 0 by decide)))
end
def PreQ : Nt → Cs → Prop
  | .bn k, _ => 1 ≤ k
  | .bnT k _, _ => 1 ≤ k
  | .jm _, s => ∀ y, look s = .ok y → y.t.kind ≠ 7
  | _, _ => True
theorem Wq.st {s : Cs} {Q : Cs → Cs → Prop} (h : Q s s) : Wq stM s Q := by
  intro r e
  have : r = .ok (s, s) := (Option.some.inj e).symm
  subst this
  exact ⟨fun f hf => by (cases hf), fun b s' hh => by (cases hh; exact h)⟩
theorem comp_kind {t : Tk} (h : comp (fixedT t) = true) : t.kind ≠ 7 := by
  intro e
  unfold fixedT at h
  rw [if_neg (by omega)] at h
  revert h
  decide
theorem tight_kind {t : Tk} {k : Nat} (h : tight (fixedT t) = k) (hk : 1 ≤ k) : t.kind ≠ 7 := by
  intro e
  unfold fixedT at h
  rw [if_neg (by omega)] at h
  have : tight ⟨#[]⟩ = 0 := by decide
  omega
theorem perr : ∀ (n : Nat) (nt : Nt) (s : Cs), Gd s → PreQ nt s → Wq (P n nt) s (fun _ s' => Gd s')
  | 0, nt, s, hg, hp => by intro r e; cases e
  | n + 1, nt, s, hg, hp => by
    have ih : ∀ (nt : Nt) (s : Cs) (Q : Fo → Cs → Prop), Gd s → PreQ nt s → (∀ a s', Gd s' → Q a s') → Wq (P n nt) s Q := fun nt s Q hg hp h r e => ⟨(perr n nt s hg hp r e).1, fun a s' hh => h a s' ((perr n nt s hg hp r e).2 a s' hh)⟩
    cases nt
    all_goals unfold P
    case' pl =>
      refine Wq.bind (ih _ _ _ hg trivial fun f s1 h1 => ?_)
      refine Wq.bind (Wq.look h1 fun z hz => ?_)
      cases f
    case' bn k => have hp : 1 ≤ k := hp
    case' bnT k l => have hp : 1 ≤ k := hp
    case' jm k =>
      have hp : ∀ y, look s = .ok y → y.t.kind ≠ 7 := hp
      refine Wq.bind (Wq.take hg hp fun y s1 h1 => ?_)
    all_goals (repeat' (first | assumption | (with_reducible refine Wq.want (by assumption) (by decide) ?_; intro _ _ _) | (with_reducible refine Wq.name (by assumption) ?_; intro _ _ _) | (with_reducible refine Wq.bind ?_) | (with_reducible refine Wq.look (by assumption) ?_; intro _ _) | (with_reducible refine Wq.take (by assumption) (same_look (by assumption) (p := fun y => y.t.kind ≠ 7) (by (first | exact fix_kind (by assumption) (by decide) | exact comp_kind (by assumption) | exact tight_kind (by assumption) (by assumption) | omega | (rename_i hor; rcases hor with h | h <;> exact fix_kind h (by decide))))) ?_; intro _ _ _) | (with_reducible refine Wq.st ?_) | (with_reducible refine Wq.pure ?_) | (with_reducible refine Wq.ite ?_ ?_ <;> intro _) | (refine ih _ _ _ (by assumption) (by (first | exact trivial | (show 1 ≤ _; omega) | (show _ ≤ _; assumption) | (exact same_look (by assumption) (p := fun y => y.t.kind ≠ 7) (by (first | exact fix_kind (by assumption) (by decide) | exact comp_kind (by assumption) | exact tight_kind (by assumption) (by assumption) | omega | (rename_i hor; rcases hor with h | h <;> exact fix_kind h (by decide))))) | (split <;> exact trivial))) ?_; intro _ _ _)))
end Go.Proofs.YtkjaoandifednaaGreatDoor.W.Tr
/- Chapter 12 in plain words: a source's faults have numbers; what is read is one tree. -/
namespace Go.Proofs.YtkjaoandifednaaGreatDoor.W.Tr
set_option linter.unusedVariables false
set_option linter.unusedSimpArgs false
theorem toks_gd (l : List UInt8) : ∀ (f a : Nat), l.length + 1 ≤ f + a → 0 < f → ∃ xs z, toksY f l a = xs ++ [z] ∧ (z.c = 0 → z.t.kind = 7)
  | 0, a, h, h0 => by omega
  | f + 1, a, h, h0 => by
    unfold toksY
    split
    · exact ⟨[], _, rfl, fun _ => rfl⟩
    rename_i h1
    split
    · exact ⟨[], _, rfl, fun e => by cases e⟩
    rename_i h2
    split
    · rename_i h3
      exact ⟨[], _, rfl, fun e => absurd e h3⟩
    obtain ⟨xs, z, e, hz⟩ := toks_gd l f (a + (pieceP (l.drop a)).size) (by omega) (by omega)
    split
    · exact ⟨_ :: xs, z, by rw [e]; rfl, hz⟩
    · exact ⟨xs, z, e, hz⟩
theorem gd_src (l : List UInt8) : Gd ⟨srcY l, 0⟩ := by
  unfold Gd srcY
  simp only
  split
  · exact ⟨[], _, rfl, fun e => by cases e⟩
  · exact toks_gd l _ 0 (by omega) (by omega)
theorem ends_code {l : List UInt8} {f : Flt} (h : Ends l (.error f)) : f.1 ≠ 0 := by
  obtain ⟨n, h⟩ := h
  exact (perr n (.pg .nil) _ (gd_src l) trivial _ h).1 f rfl
theorem pg_form' : ∀ (n : Nat) (l : Fo) (s : Cs) (fo : Fo) (s' : Cs), P n (.pg l) s = some (.ok (fo, s')) → ∃ nd m, fo = Fo.one nd m
  | 0, l, s, fo, s', h => by cases h
  | n + 1, l, s, fo, s', h => by
    have h : (lookM.bind fun y => if y.t.kind = 7 then Pm.pure (Fo.one ⟨1, 0, ⟨#[]⟩, 0, 0⟩ l) else (P n (if fixedT y.t = k_let then .gl else .fu)).bind fun x => P n (.pg (l.app x))) s = some (.ok (fo, s')) := h
    rcases look_inv h with ⟨e, _, h1⟩ | ⟨y, _, h1⟩
    · cases h1
    · split at h1
      · have := pure_inv h1
        cases this
        exact ⟨_, _, rfl⟩
      · rcases bind_inv h1 with ⟨e, _, h2⟩ | ⟨x, s1, _, h2⟩
        · cases h2
        · exact pg_form' n _ _ _ _ h2
end Go.Proofs.YtkjaoandifednaaGreatDoor.W.Tr
