/- Chapter 14 in plain words: a site's state, and what follows of it. -/
import Derived.Test.YtalcfblknoojpaaProg
namespace Go.Proofs.Ytalcfblknoojpaa.W.Si
/-- a site: its form, its counts, and its row: so many pairs of one kind, one behind the other -/
structure Sp where
  form : Int
  gen : Int
  fast : Int
  fails : Int
  kind : Int
  row : Int
def new : Sp := ⟨0, 0, 0, 0, 0, 0⟩
def pairP (p : Int) : Int := if p = 1 ∨ p = 2 then p else 0
/-- the guard has failed -/
def failS (s : Sp) : Sp := { s with fails := s.fails + 1, form := 0, row := 0 }
/-- the row behind a pair in the generic form -/
def rowS (s : Sp) (p : Int) : Sp := if p = 0 then { s with gen := s.gen + 1, row := 0 } else if 0 < s.row ∧ s.kind = p then { s with gen := s.gen + 1, row := if s.row < 3 then s.row + 1 else s.row } else { s with gen := s.gen + 1, kind := p, row := 1 }
def turnS (s : Sp) : Sp := if 3 ≤ s.row ∧ s.fails < 4 then { s with form := s.kind, row := 0 } else s
def genS (s : Sp) (p : Int) : Sp := turnS (rowS s p)
/-- one more execution -/
def onS (s : Sp) (q : Int) : Sp := if s.form ≠ 0 ∧ s.form = pairP q then { s with fast := s.fast + 1 } else if s.form ≠ 0 then genS (failS s) (pairP q) else genS s (pairP q)
def onA (s : Sp) (q : Int) : Int := if s.form ≠ 0 ∧ s.form = pairP q then s.form else 0
def forceS (s : Sp) (f : Int) : Sp := if f < 0 ∨ 2 < f then s else { s with form := f, row := 0 }
def forceA (f : Int) : Int := if f < 0 ∨ 2 < f then 1 else 0
theorem pair_cases (q : Int) : pairP q = 0 ∨ pairP q = 1 ∨ pairP q = 2 := by
  unfold pairP; split <;> omega
/-- what holds of every site; n: what was done to it -/
structure Ok (n : Int) (s : Sp) : Prop where
  form : s.form = 0 ∨ s.form = 1 ∨ s.form = 2
  gen : 0 ≤ s.gen ∧ s.gen ≤ n
  fast : 0 ≤ s.fast ∧ s.fast ≤ n
  fails : 0 ≤ s.fails ∧ s.fails ≤ n
  row : 0 ≤ s.row ∧ s.row ≤ 3
  kind : s.kind = 0 ∨ s.kind = 1 ∨ s.kind = 2
  has : 0 < s.row → s.kind ≠ 0
  full : s.row = 3 → 4 ≤ s.fails
theorem ok_new : Ok 0 new := ⟨.inl rfl, by decide, by decide, by decide, by decide, .inl rfl, by decide, by decide⟩
theorem ok_gen {n : Int} {s : Sp} (h : Ok n s) (q : Int) : Ok (n + 1) (genS s (pairP q)) ∧ (genS s (pairP q)).fails = s.fails ∧ (genS s (pairP q)).gen = s.gen + 1 ∧ (genS s (pairP q)).fast = s.fast := by
  obtain ⟨f, g, fa, fl, r, k, hs, fu⟩ := h
  have hp := pair_cases q
  generalize pairP q = p at *
  unfold genS turnS rowS
  by_cases c1 : p = 0
  · rw [if_pos c1]
    simp only
    rw [if_neg (by omega)]
    exact ⟨⟨f, by simp only; omega, by simp only; omega, by simp only; omega, by simp, k, by simp, by simp⟩, rfl, rfl, rfl⟩
  · rw [if_neg c1]
    by_cases c2 : 0 < s.row ∧ s.kind = p
    · rw [if_pos c2]
      simp only
      by_cases c3 : s.row < 3
      · rw [if_pos c3]
        by_cases c4 : 3 ≤ s.row + 1 ∧ s.fails < 4
        · rw [if_pos c4]
          exact ⟨⟨by simp only; omega, by simp only; omega, by simp only; omega, by simp only; omega, by simp, k, by simp, by simp⟩, rfl, rfl, rfl⟩
        · rw [if_neg c4]
          exact ⟨⟨f, by simp only; omega, by simp only; omega, by simp only; omega, by simp only; omega, k, by simp only; omega, by simp only; omega⟩, rfl, rfl, rfl⟩
      · rw [if_neg c3]
        by_cases c4 : 3 ≤ s.row ∧ s.fails < 4
        · rw [if_pos c4]
          exact ⟨⟨by simp only; omega, by simp only; omega, by simp only; omega, by simp only; omega, by simp, k, by simp, by simp⟩, rfl, rfl, rfl⟩
        · rw [if_neg c4]
          exact ⟨⟨f, by simp only; omega, by simp only; omega, by simp only; omega, by simp only; omega, k, by simp only; omega, by simp only; omega⟩, rfl, rfl, rfl⟩
    · rw [if_neg c2]
      simp only
      rw [if_neg (by omega)]
      exact ⟨⟨f, by simp only; omega, by simp only; omega, by simp only; omega, by simp, by simp only; omega, by simp only; omega, by simp⟩, rfl, rfl, rfl⟩
theorem ok_fail {n : Int} {s : Sp} (h : Ok n s) (hn : s.fails + 1 ≤ n + 1) : Ok (n + 1) (failS s) ∧ (failS s).gen = s.gen ∧ (failS s).fast = s.fast ∧ (failS s).form = 0 := by
  obtain ⟨f, g, fa, fl, r, k, hs, fu⟩ := h
  exact ⟨⟨.inl rfl, by simp only [failS]; omega, by simp only [failS]; omega, by simp only [failS]; omega, by simp [failS], k, by simp [failS], by simp [failS]⟩, rfl, rfl, rfl⟩
/-- behind one more execution: two counts at most are one more -/
theorem ok_on {n : Int} {s : Sp} (h : Ok n s) (q : Int) : Ok (n + 2) (onS s q) ∧ (onS s q).gen + (onS s q).fast = s.gen + s.fast + 1 ∧ s.fails ≤ (onS s q).fails := by
  unfold onS
  by_cases c1 : s.form ≠ 0 ∧ s.form = pairP q
  · rw [if_pos c1]
    obtain ⟨f, g, fa, fl, r, k, hs, fu⟩ := h
    exact ⟨⟨f, by simp only; omega, by simp only; omega, by simp only; omega, r, k, hs, fu⟩, by simp only; omega, by simp only; omega⟩
  · rw [if_neg c1]
    by_cases c2 : s.form ≠ 0
    · rw [if_pos c2]
      obtain ⟨o1, e1, e2, _⟩ := ok_fail h (by have := h.fails; omega)
      obtain ⟨o2, e4, e5, e6⟩ := ok_gen o1 q
      refine ⟨by have : n + 1 + 1 = n + 2 := by omega
                 rwa [this] at o2, by omega, ?_⟩
      rw [e4]
      simp only [failS]; omega
    · rw [if_neg c2]
      obtain ⟨o2, e4, e5, e6⟩ := ok_gen h q
      obtain ⟨f, g, fa, fl, r, k, hs, fu⟩ := o2
      refine ⟨⟨f, by omega, by omega, by omega, r, k, hs, fu⟩, by omega, by omega⟩
theorem ok_force {n : Int} {s : Sp} (h : Ok n s) (f : Int) : Ok (n + 2) (forceS s f) := by
  obtain ⟨f0, g, fa, fl, r, k, hs, fu⟩ := h
  unfold forceS
  by_cases c : f < 0 ∨ 2 < f
  · rw [if_pos c]
    exact ⟨f0, by omega, by omega, by omega, r, k, hs, fu⟩
  · rw [if_neg c]
    exact ⟨by simp only; omega, by simp only; omega, by simp only; omega, by simp only; omega, by simp, k, by simp, by simp⟩
theorem pair_of {k : Int} (h : k = 1 ∨ k = 2) : pairP k = k := if_pos h
/-- along pairs of one kind: j of them -/
def WarmI (g0 a0 f0 k j : Int) (s : Sp) : Prop := s.fails = f0 ∧ s.gen + s.fast = g0 + a0 + j ∧ g0 ≤ s.gen ∧ ((s.form = k ∧ s.gen ≤ g0 + 3) ∨ (s.form = 0 ∧ s.gen = g0 + j ∧ 0 ≤ s.row ∧ s.row < 3 ∧ (j = 0 ∨ (s.kind = k ∧ j ≤ s.row))))
theorem warm_start {n : Int} {s : Sp} (h : Ok n s) (k : Int) (hf : s.fails < 4) (hk : s.form = 0 ∨ s.form = k) : WarmI s.gen s.fast s.fails k 0 s := by
  refine ⟨rfl, by omega, by omega, ?_⟩
  rcases hk with hk | hk
  · have := h.row
    have := h.full
    exact .inr ⟨hk, by omega, by omega, by omega, .inl rfl⟩
  · exact .inl ⟨hk, by omega⟩
theorem warm_step {g0 a0 f0 k j : Int} {s : Sp} (hk : k = 1 ∨ k = 2) (hf : f0 < 4) (h : WarmI g0 a0 f0 k j s) : WarmI g0 a0 f0 k (j + 1) (onS s k) := by
  obtain ⟨h1, h2, h3, h4⟩ := h
  have hp := pair_of hk
  unfold onS
  rw [hp]
  rcases h4 with ⟨e1, e2⟩ | ⟨e1, e2, e3, e4, e5⟩
  · rw [if_pos ⟨by omega, e1⟩]
    exact ⟨h1, by simp only; omega, h3, .inl ⟨e1, e2⟩⟩
  · rw [if_neg (by omega), if_neg (by omega)]
    unfold genS turnS rowS
    rw [if_neg (show ¬ k = 0 by omega)]
    by_cases c : 0 < s.row ∧ s.kind = k
    · rw [if_pos c]
      simp only
      rw [if_pos e4]
      by_cases c2 : 3 ≤ s.row + 1 ∧ s.fails < 4
      · rw [if_pos c2]
        exact ⟨h1, by simp only; omega, by simp only; omega, .inl ⟨c.2, by simp only; omega⟩⟩
      · rw [if_neg c2]
        exact ⟨h1, by simp only; omega, by simp only; omega, .inr ⟨e1, by simp only; omega, by simp only; omega, by simp only; omega, .inr ⟨c.2, by simp only; omega⟩⟩⟩
    · rw [if_neg c]
      simp only
      rw [if_neg (by omega)]
      exact ⟨h1, by simp only; omega, by simp only; omega, .inr ⟨e1, by simp only; omega, by simp, by simp, .inr ⟨rfl, by simp only; omega⟩⟩⟩
theorem warm_end {g0 a0 f0 k n : Int} {s : Sp} (h : WarmI g0 a0 f0 k n s) : s.fails = f0 ∧ s.gen - g0 ≤ 3 ∧ s.gen + s.fast = g0 + a0 + n ∧ (n < 3 ∨ s.form = k) := by
  obtain ⟨h1, h2, h3, h4⟩ := h
  refine ⟨h1, ?_, h2, ?_⟩
  · rcases h4 with h | h <;> omega
  · rcases h4 with h | h
    · exact .inr h.1
    · left; omega
/-- without being forced -/
def StopI (s : Sp) : Prop := s.fails ≤ 4 ∧ (s.fails = 4 → s.form = 0)
theorem gen_stop {s : Sp} (p : Int) (h0 : s.form = 0) : (genS s p).fails = s.fails ∧ (s.fails = 4 → (genS s p).form = 0) := by
  unfold genS turnS rowS
  by_cases c1 : p = 0
  · rw [if_pos c1]
    simp only
    rw [if_neg (by omega)]
    exact ⟨rfl, fun _ => h0⟩
  · rw [if_neg c1]
    by_cases c2 : 0 < s.row ∧ s.kind = p
    · rw [if_pos c2]
      simp only
      by_cases c3 : 3 ≤ (if s.row < 3 then s.row + 1 else s.row) ∧ s.fails < 4
      · rw [if_pos c3]
        exact ⟨rfl, fun e => by omega⟩
      · rw [if_neg c3]
        exact ⟨rfl, fun _ => h0⟩
    · rw [if_neg c2]
      simp only
      rw [if_neg (by omega)]
      exact ⟨rfl, fun _ => h0⟩
theorem stop_step {s : Sp} (q : Int) (h : StopI s) : StopI (onS s q) ∧ (s.fails = 4 → onA s q = 0 ∧ (onS s q).form = 0) ∧ (onA s q ≠ 0 → onA s q = s.form ∧ (onS s q).form = s.form) := by
  obtain ⟨h1, h2⟩ := h
  unfold onS onA
  by_cases c1 : s.form ≠ 0 ∧ s.form = pairP q
  · rw [if_pos c1, if_pos c1]
    exact ⟨⟨h1, h2⟩, fun e => absurd (h2 e) c1.1, fun _ => ⟨rfl, rfl⟩⟩
  · rw [if_neg c1, if_neg c1]
    by_cases c2 : s.form ≠ 0
    · rw [if_pos c2]
      have h3 : ¬ s.fails = 4 := fun e => c2 (h2 e)
      obtain ⟨e1, e2⟩ := gen_stop (s := failS s) (pairP q) rfl
      refine ⟨⟨?_, ?_⟩, fun e => absurd e h3, fun e => absurd rfl e⟩
      · rw [e1]; simp only [failS]; omega
      · intro e; exact e2 (by rw [← e1]; exact e)
    · rw [if_neg c2]
      have h3 : s.form = 0 := by omega
      obtain ⟨e1, e2⟩ := gen_stop (s := s) (pairP q) h3
      refine ⟨⟨by rw [e1]; exact h1, fun e => e2 (by rw [← e1]; exact e)⟩, fun e => ⟨rfl, e2 e⟩, fun e => absurd rfl e⟩
/-- a form that is forced, and n executions of it -/
theorem forced_step {f : Int} (hf : f = 1 ∨ f = 2) (s : Sp) (h : s.form = f) : onS s f = { s with fast := s.fast + 1 } ∧ onA s f = f := by
  unfold onS onA
  rw [pair_of hf, if_pos ⟨by omega, h⟩, if_pos ⟨by omega, h⟩]
  exact ⟨rfl, h⟩
/-- .. and a guard that fails, or the generic form -/
theorem forced_end {s : Sp} (q : Int) (hq : ¬ (s.form ≠ 0 ∧ s.form = q)) (hr : s.row = 0) : onA s q = 0 ∧ (onS s q).form = 0 ∧ (onS s q).gen = s.gen + 1 ∧ (onS s q).fails = s.fails + (if s.form = 0 then 0 else 1) ∧ (onS s q).fast = s.fast := by
  have hp := pair_cases q
  have hn : ¬ (s.form ≠ 0 ∧ s.form = pairP q) := by
    rintro ⟨h1, h2⟩
    apply hq
    refine ⟨h1, ?_⟩
    unfold pairP at h2
    split at h2
    · exact h2
    · exact absurd h2 h1
  have g : ∀ t : Sp, t.row = 0 → t.form = 0 → (genS t (pairP q)).form = 0 ∧ (genS t (pairP q)).gen = t.gen + 1 ∧ (genS t (pairP q)).fails = t.fails ∧ (genS t (pairP q)).fast = t.fast := by
    intro t ht h0
    unfold genS turnS rowS
    by_cases c1 : pairP q = 0
    · rw [if_pos c1]
      simp only
      rw [if_neg (by omega)]
      exact ⟨h0, rfl, rfl, rfl⟩
    · rw [if_neg c1, if_neg (show ¬ (0 < t.row ∧ t.kind = pairP q) by omega)]
      simp only
      rw [if_neg (by omega)]
      exact ⟨h0, rfl, rfl, rfl⟩
  unfold onS onA
  rw [if_neg hn, if_neg hn]
  by_cases c : s.form = 0
  · rw [if_neg (by omega), if_pos c]
    obtain ⟨a, b, c', d⟩ := g s hr c
    exact ⟨rfl, a, b, by omega, d⟩
  · rw [if_pos c, if_neg c]
    obtain ⟨a, b, c', d⟩ := g (failS s) rfl rfl
    exact ⟨rfl, a, b, c', d⟩
end Go.Proofs.Ytalcfblknoojpaa.W.Si
