import Derived.Test.YtaebnnkhjlidiabBase29
/- Two heaps that a statement made itself, and what it keeps beside them. -/
namespace Go.Proofs.Ytaebnnkhjlidiab.W
open Go.ChangeShapes Go.WideShapes Go.RowKit Go.Shelf
set_option linter.unusedVariables false
def TwoH (W0 W : World) (ha hb : Nat) (Ha Hb : List (Option Hc)) (u : Nat) (K : Nat → Prop) : Prop := Below W0.heap.size W0 W ∧ ∃ Sa Sb, HSt W Sa ha Ha u ∧ HSt W Sb hb Hb u ∧ (∀ k, Sa k → W0.heap.size ≤ k ∧ k < W.heap.size) ∧ (∀ k, Sb k → W0.heap.size ≤ k ∧ k < W.heap.size) ∧ (∀ k, Sa k → ¬ Sb k) ∧ ∀ k, K k → k < W.heap.size ∧ ¬ Sa k ∧ ¬ Sb k
section
variable {W0 W W1 W' : World} {ha hb : Nat} {Ha Hb : List (Option Hc)} {u : Nat} {K K' : Nat → Prop}
theorem TwoH.bel (q : TwoH W0 W ha hb Ha Hb u K) : Below W0.heap.size W0 W := q.1
theorem TwoH.swap (q : TwoH W0 W ha hb Ha Hb u K) : TwoH W0 W hb ha Hb Ha u K := by
  obtain ⟨h1, Sa, Sb, h2, h3, h4, h5, h6, h7⟩ := q
  exact ⟨h1, Sb, Sa, h3, h2, h5, h4, fun k e1 e2 => h6 k e2 e1, fun k e => ⟨(h7 k e).1, (h7 k e).2.2, (h7 k e).2.1⟩⟩
theorem TwoH.one (q : TwoH W0 W ha hb Ha Hb u K) : Hf W0 W ha Ha u K := by
  obtain ⟨h1, Sa, Sb, h2, h3, h4, h5, h6, h7⟩ := q
  exact ⟨h1, Sa, h2, h4, fun k e => ⟨(h7 k e).1, (h7 k e).2.1⟩⟩
theorem TwoH.sub (q : TwoH W0 W ha hb Ha Hb u K) (h : ∀ k, K' k → K k) : TwoH W0 W ha hb Ha Hb u K' := by
  obtain ⟨h1, Sa, Sb, h2, h3, h4, h5, h6, h7⟩ := q
  exact ⟨h1, Sa, Sb, h2, h3, h4, h5, h6, fun k e => h7 k (h k e)⟩
/-- what is kept aside may be written, new blocks may come -/
theorem TwoH.upd {D : Nat → Prop} (q : TwoH W0 W ha hb Ha Hb u K) (hU : Upd D W W') (hD : ∀ k, D k → K k ∧ W0.heap.size ≤ k) : TwoH W0 W' ha hb Ha Hb u (fun k => K k ∨ (W.heap.size ≤ k ∧ k < W'.heap.size)) := by
  obtain ⟨h1, Sa, Sb, h2, h3, h4, h5, h6, h7⟩ := q
  have z := hU.size
  refine ⟨h1.trans (hU.below h1.size (fun k e => (hD k e).2)), Sa, Sb, h2.on z (fun k e hl => hU.block k hl (fun d => (h7 k (hD k d).1).2.1 e)), h3.on z (fun k e hl => hU.block k hl (fun d => (h7 k (hD k d).1).2.2 e)), fun k e => ⟨(h4 k e).1, by have := (h4 k e).2; omega⟩, fun k e => ⟨(h5 k e).1, by have := (h5 k e).2; omega⟩, h6, ?_⟩
  rintro k (e | e)
  · exact ⟨by have := (h7 k e).1; omega, (h7 k e).2⟩
  · exact ⟨e.2, fun e2 => by have := (h4 k e2).2; omega, fun e2 => by have := (h5 k e2).2; omega⟩
theorem TwoH.below (q : TwoH W0 W ha hb Ha Hb u K) (hB : Below W.heap.size W W') : TwoH W0 W' ha hb Ha Hb u (fun k => K k ∨ (W.heap.size ≤ k ∧ k < W'.heap.size)) :=
  q.upd (D := fun _ => False) (Upd.of_below hB) (fun k e => e.elim)
theorem TwoH.below' (q : TwoH W0 W ha hb Ha Hb u K) (hB : Below W.heap.size W W') : TwoH W0 W' ha hb Ha Hb u K := (q.below hB).sub (fun k e => .inl e)
/-- the first heap has changed -/
theorem TwoH.put {Sa Sb : Nat → Prop} {Ha' : List (Option Hc)} (h1 : Below W0.heap.size W0 W) (h3 : HSt W Sb hb Hb u) (h4 : ∀ k, Sa k → W0.heap.size ≤ k ∧ k < W.heap.size) (h5 : ∀ k, Sb k → W0.heap.size ≤ k ∧ k < W.heap.size) (h6 : ∀ k, Sa k → ¬ Sb k) (h7 : ∀ k, K k → k < W.heap.size ∧ ¬ Sa k ∧ ¬ Sb k) (hU : Upd Sa W W') (g : HSt W' (Nx Sa W W') ha Ha' u) : TwoH W0 W' ha hb Ha' Hb u K ∧ Upd (Ch W0 K) W W' := by
  have z := hU.size
  have z0 := h1.size
  refine ⟨⟨h1.trans (hU.below z0 (fun k e => (h4 k e).1)), _, Sb, g, h3.on z (fun k e hl => hU.block k hl (fun d => h6 k d e)), ?_, fun k e => ⟨(h5 k e).1, by have := (h5 k e).2; omega⟩, ?_, fun k e => ⟨by have := (h7 k e).1; omega, ?_, (h7 k e).2.2⟩⟩, ⟨hU.os, hU.tape, hU.output, hU.size, fun k hk hn => hU.block k hk (fun e => hn ⟨fun e2 => (h7 k e2).2.1 e, (h4 k e).1⟩)⟩⟩
  · rintro k (e | e)
    · exact ⟨(h4 k e).1, by have := (h4 k e).2; omega⟩
    · exact ⟨by omega, e.2⟩
  · rintro k (e | e)
    · exact h6 k e
    · intro e2; have := (h5 k e2).2; omega
  · rintro (e2 | e2)
    · exact (h7 k e).2.1 e2
    · have := (h7 k e).1; omega
theorem two_new (q : Hf W0 W ha Ha u K) : Calls Try.prog 7 #[.int .i64 u] W fun e w' => ∃ hb, e = .returned (.tuple #[.pointer (some ⟨hb, 0, none⟩), .int .i64 0]) ∧ TwoH W0 w' ha hb Ha [] u K ∧ Below W.heap.size W w' := by
  obtain ⟨h1, S, h2, h3, h4⟩ := q
  have hu : u ≤ 1048576 := by obtain ⟨sb, vc, T, g, _⟩ := h2; exact g.u1
  refine (hnew_c u hu W).mono ?_
  rintro e w' ⟨hb, rfl, hB', g⟩
  have z1 := h1.size
  have z2 := hB'.size
  refine ⟨hb, rfl, ⟨h1.trans (hB'.mono z1), S, _, h2.below hB', g, fun k e => ⟨(h3 k e).1, by have := (h3 k e).2; omega⟩, fun k e => ⟨by omega, e.2⟩, fun k e e2 => by have := (h3 k e).2; omega, fun k e => ⟨by have := (h4 k e).1; omega, (h4 k e).2, fun e2 => by have := (h4 k e).1; omega⟩⟩, hB'⟩
/-- what Put of a row of noughts answers, ids being the roots -/
def RowPost (W0 W : World) (ha hb : Nat) (Ha Hb : List (Option Hc)) (u : Nat) (K : Nat → Prop) (ids : List Nat) (n : Nat) (e : Ending) (w' : World) : Prop :=
  Upd (Ch W0 K) W w' ∧ ∃ H', TwoH W0 w' ha hb H' Hb u K ∧ Kp H' ids ∧ idsum H' ids = idsum Ha ids ∧ H'.length ≤ Ha.length + 1 ∧
    ((idsum Ha ids + (1 + n) ≤ u ∧ ∃ i, i ≤ Ha.length ∧ e = .returned (.tuple #[.int .u64 (hw i : Nat), .int .i64 0]) ∧ Kp H' (ids ++ [i]) ∧ idsum H' (ids ++ [i]) = idsum Ha ids + (1 + n)) ∨ (u < idsum Ha ids + (1 + n) ∧ e = .returned (.tuple #[.int .u64 0, .int .i64 40])))
theorem two_row (q : TwoH W0 W ha hb Ha Hb u K) (ids : List Nat) (k : Kp Ha ids) (hl : Ha.length < 1000000) (n : Nat) (hn : n ≤ 1048576) (ow : Option Addr) (wc : Nat) (hv : WordsAt W (.slice ow n wc) (List.replicate n 0)) (ho : ∀ x, ow = some x → K x.block) (vr : Value) (hr : WordsAt W vr (ids.map hw)) :
    Calls Try.prog 8 #[.pointer (some ⟨ha, 0, none⟩), .agg #[.int .i64 9, .bool false, .int .i64 0, .string ByteArray.empty, .slice none 0 0, .slice ow n wc, .int .u64 0, .int .i64 0, .int .i64 0], vr] W (RowPost W0 W ha hb Ha Hb u K ids n) := by
  obtain ⟨h1, Sa, Sb, h2, h3, h4, h5, h6, h7⟩ := q
  have hlen : (List.replicate n 0).length = n := List.length_replicate
  have := put_row h2 (fun k e => (h4 k e).2) (List.replicate n 0) (by rw [hlen]; exact hn) (fun w hw => by rw [(List.mem_replicate.1 hw).2]; decide) (fun w hw => by rw [(List.mem_replicate.1 hw).2]; exact isVal_zero _) none ow 0 wc (by rw [hlen]; exact hv) (by
    intro o n' cap e k
    cases e
    have := h7 _ (ho o rfl)
    rcases k with k | k
    · exact this.2.1 k
    · omega) vr (ids.map hw) hr
  rw [hlen] at this
  refine this.mono ?_
  rintro e w' ⟨hU, hP⟩
  obtain ⟨r1, r2, r3, r4⟩ := k.room (u := u) (nrow n) (nrow_seeds n)
  have e1 := idsum_same r2
  have hnd := nrow_need n
  rcases hP with ⟨p1, p2, p3⟩ | ⟨p1, p2, p3⟩
  · obtain ⟨t1, t2, t3, t4, t5⟩ := r1.put (nrow n) (nrow_succ n) (by rw [r4]; exact hl)
    obtain ⟨g1, g2⟩ := TwoH.put h1 h3 h4 h5 h6 h7 hU p3
    have hfit := r3.1 p1
    refine ⟨g2, _, g1, t2, t3.trans e1, by rw [r4] at t5; exact t5, .inl ⟨by rw [hnd] at hfit; exact hfit, _, by have := lid_le (roomH Ha u (nrow n) (ids.map hw)); rw [r4] at this; exact this, p2, t1, t4.trans (by rw [e1, hnd])⟩⟩
  · obtain ⟨g1, g2⟩ := TwoH.put h1 h3 h4 h5 h6 h7 hU p3
    have hfit : ¬ (idsum Ha ids + (nrow n).need ≤ u) := fun e => absurd (show sumH (roomH Ha u (.row (List.replicate n 0)) (ids.map hw)) + (Hc.row (List.replicate n 0)).need ≤ u from r3.2 e) (by omega)
    rw [hnd] at hfit
    exact ⟨g2, _, g1, r1, e1, Nat.le_trans (Nat.le_of_eq r4) (Nat.le_succ _), .inr ⟨by omega, p2⟩⟩
theorem two_collect (q : TwoH W0 W ha hb Ha Hb u K) (ids : List Nat) (k : Kp Ha ids) (vr : Value) (hr : WordsAt W vr (ids.map hw)) :
    Calls Try.prog 9 #[.pointer (some ⟨ha, 0, none⟩), vr] W fun e w' => e = .returned (.tuple #[]) ∧ Upd (Ch W0 K) W w' ∧ ∃ H', TwoH W0 w' ha hb H' Hb u K ∧ Kp H' ids ∧ idsum H' ids = idsum Ha ids ∧ H'.length = Ha.length := by
  obtain ⟨h1, Sa, Sb, h2, h3, h4, h5, h6, h7⟩ := q
  refine (hcollect_c h2 (fun k e => (h4 k e).2) vr (ids.map hw) hr).mono ?_
  rintro e w' ⟨rfl, hU, g⟩
  obtain ⟨g1, g2⟩ := TwoH.put h1 h3 h4 h5 h6 h7 hU g
  obtain ⟨z1, z2, z3, z4⟩ := k.zip [] (by simp)
  rw [List.append_nil] at z1 z2 z3 z4
  exact ⟨rfl, g2, _, g1, z1, idsum_same z2, z4⟩
theorem two_reach (q : TwoH W0 W ha hb Ha Hb u K) (ids : List Nat) (k : Kp Ha ids) (vr : Value) (hr : WordsAt W vr (ids.map hw)) :
    Calls Try.prog 10 #[.pointer (some ⟨ha, 0, none⟩), vr] W fun e w' => e = .returned (.int .i64 (idsum Ha ids : Nat)) ∧ Below W.heap.size W w' := by
  obtain ⟨h1, Sa, Sb, ⟨sb, vc, T, g, _, _, _, hs⟩, _⟩ := q
  have hu := g.u1
  have := hreach_c g (by omega) vr (ids.map hw) hr
  rw [k.reach] at this
  exact this
end
end Go.Proofs.Ytaebnnkhjlidiab.W
