import Derived.Test.YtmeoonnofiicpaaS8jJ
import Derived.Test.YtmeoonnofiicpaaS8lJ
/- act: both stores, from call to call. -/
namespace Go.Proofs.Ytmeoonnofiicpaa.W.R5
open Go.ChangeShapes Go.WideShapes Go.RowKit Go.Shelf
set_option linter.unusedVariables false
set_option linter.unusedSimpArgs false
/-- theirs: of what was there K, or new behind act's boxes -/
def Hk (W : World) (K : Nat → Prop) (k : Nat) : Prop := (K k ∧ k < W.heap.size) ∨ W.heap.size + 3 ≤ k
/-- both stores within act, the store holding A1, the reference's A2 -/
def Jq (B0 : Nat) (W w' : World) (K : Nat → Prop) (sb rb : Nat) (A1 : List (Option (List Nat))) (M1 : Nat) (A2 : List (Option (List Nat))) (M2 n : Nat) (a : Si.A6) : Prop :=
  ∃ S l v, St w' S sb A1 M1 n ∧ Rs B0 w' rb A2 M2 l v ∧ (∀ k, S k → ¬ Mine5 rb l v k) ∧ (∀ k, S k → B0 ≤ k ∧ k < w'.heap.size ∧ Hk W K k) ∧ (∀ k, Mine5 rb l v k → Hk W K k) ∧ Upd K W w' ∧ Bx W w' rb a
section
variable {B0 : Nat} {W w' w'' : World} {K S : Nat → Prop} {sb rb M M1 M2 n : Nat} {A A1 A2 A' : List (Option (List Nat))} {a : Si.A6} {l : List En} {v : Value}
theorem upd_sub {S : Nat → Prop} (h1 : Upd K W w') (h2 : Upd S w' w'') (h : ∀ k, S k → Hk W K k) : Upd K W w'' :=
  ⟨h2.os.trans h1.os, h2.tape.trans h1.tape, h2.output.trans h1.output, Nat.le_trans h1.size h2.size, fun k hk hn => (h2.block k (Nat.lt_of_lt_of_le hk h1.size) (fun e => by rcases h k e with ⟨h3, _⟩ | h3 <;> first | exact hn h3 | omega)).trans (h1.block k hk hn)⟩
theorem bx_sub {S : Nat → Prop} (h1 : Bx W w' rb a) (h2 : Upd S w' w'') (h : ∀ k, S k → Hk W K k) : Bx W w'' rb a := by
  have l2 := (Array.getElem?_eq_some_iff.1 h1.c2).1
  exact h1.on (fun k e1 e2 => h2.block k (by omega) (fun e => by rcases h k e with ⟨_, h3⟩ | h3 <;> omega))
theorem jq_start (h : Bo B0 W K sb rb A M n) (hB : Below W.heap.size W w') (hx : Bx W w' rb a) : Jq B0 W w' K sb rb A M A M n a := by
  obtain ⟨S, l, v, h1, h2, h3, h4, h5⟩ := h
  refine ⟨S, l, v, h1.on (fun k e => hB.block k (h4 k e).2.1), h2.below hB, h3, fun k e => ⟨(h4 k e).1, by have := (h4 k e).2.1; have := hB.size; omega, .inl ⟨(h4 k e).2.2, (h4 k e).2.1⟩⟩, fun k e => .inl ⟨h5 k e, (h2.blk_lt k e).2⟩, (Upd.of_below hB), hx⟩
/-- the store was asked -/
theorem jq_one (h1 : Rs B0 w' rb A2 M2 l v) (h2 : ∀ k, S k → ¬ Mine5 rb l v k) (h3 : ∀ k, S k → B0 ≤ k ∧ k < w'.heap.size ∧ Hk W K k) (h4 : ∀ k, Mine5 rb l v k → Hk W K k) (h5 : Upd K W w') (h6 : Bx W w' rb a) (hU : Upd S w' w'') (hS : St w'' (Nx S w' w'') sb A' M1 n) : Jq B0 W w'' K sb rb A' M1 A2 M2 n a := by
  have l2 := (Array.getElem?_eq_some_iff.1 h6.c2).1
  have hlo := (h1.lo).1
  have hrl := (h1.blk_lt rb (.inl rfl)).2
  have z := hU.size
  refine ⟨_, l, v, hS, h1.on (fun k e => hU.block k (h1.blk_lt k e).2 (fun c => h2 k c e)), ?_, ?_, h4, upd_sub h5 hU (fun k e => (h3 k e).2.2), bx_sub h6 hU (fun k e => (h3 k e).2.2)⟩
  · rintro k (e | e) c
    · exact h2 k e c
    · have := (h1.blk_lt k c).2; omega
  · rintro k (e | e)
    · exact ⟨(h3 k e).1, by have := (h3 k e).2.1; omega, (h3 k e).2.2⟩
    · exact ⟨by omega, e.2, .inr (by omega)⟩
/-- the reference's was asked -/
theorem jq_two {l' : List En} {v' : Value} (h0 : St w' S sb A1 M1 n) (h1 : Rs B0 w' rb A2 M2 l v) (h2 : ∀ k, S k → ¬ Mine5 rb l v k) (h3 : ∀ k, S k → B0 ≤ k ∧ k < w'.heap.size ∧ Hk W K k) (h4 : ∀ k, Mine5 rb l v k → Hk W K k) (h5 : Upd K W w') (h6 : Bx W w' rb a) (hU : Upd (Mine5 rb l v) w' w'') (hR : Rs B0 w'' rb A' M l' v') (hM : ∀ k, Mine5 rb l' v' k → Mine5 rb l v k ∨ (w'.heap.size ≤ k ∧ k < w''.heap.size)) : Jq B0 W w'' K sb rb A1 M1 A' M n a := by
  have l2 := (Array.getElem?_eq_some_iff.1 h6.c2).1
  have z := hU.size
  refine ⟨S, l', v', h0.on (fun k e => hU.block k (h3 k e).2.1 (fun c => h2 k e c)), hR, ?_, ?_, ?_, upd_sub h5 hU h4, bx_sub h6 hU h4⟩
  · intro k e c
    rcases hM k c with c | c
    · exact h2 k e c
    · have := (h3 k e).2.1; omega
  · intro k e
    exact ⟨(h3 k e).1, by have := (h3 k e).2.1; omega, (h3 k e).2.2⟩
  · intro k e
    rcases hM k e with c | c
    · exact h4 k c
    · exact .inr (by omega)
/-- act's answer is laid -/
theorem jq_end (h : Jq B0 W w' K sb rb A M A M n a) : Upd K W (w'.setCell ⟨W.heap.size + 2, 0, none⟩ (.bool true)) ∧ Bo B0 (w'.setCell ⟨W.heap.size + 2, 0, none⟩ (.bool true)) (fun k => K k ∨ W.heap.size ≤ k) sb rb A M n := by
  obtain ⟨S, l, v, h0, h1, h2, h3, h4, h5, h6⟩ := h
  have uS : Upd (fun k => k = W.heap.size + 2) w' (w'.setCell ⟨W.heap.size + 2, 0, none⟩ (.bool true)) := (Upd.refl (fun k => k = W.heap.size + 2) w').setCell (p := ⟨W.heap.size + 2, 0, none⟩) (.inl rfl) _
  have z := uS.size
  have z5 := h5.size
  have ne : ∀ k, Hk W K k → k ≠ W.heap.size + 2 := by
    rintro k (⟨_, e⟩ | e) <;> omega
  have hk : ∀ k, Hk W K k → K k ∨ W.heap.size ≤ k := by
    rintro k (⟨e, _⟩ | e)
    · exact .inl e
    · exact .inr (by omega)
  refine ⟨upd_more' h5 uS (fun k e => by omega), S, l, v, h0.on (fun k e => uS.block k (h3 k e).2.1 (ne k (h3 k e).2.2)), h1.on (fun k e => uS.block k (h1.blk_lt k e).2 (ne k (h4 k e))), h2, fun k e => ⟨(h3 k e).1, by have := (h3 k e).2.1; omega, hk k (h3 k e).2.2⟩, fun k e => hk k (h4 k e)⟩
/-- nothing but new blocks -/
theorem bo_below (h : Bo B0 W K sb rb A M n) (hB : Below W.heap.size W w') : Bo B0 w' K sb rb A M n := by
  obtain ⟨S, l, v, h1, h2, h3, h4, h5⟩ := h
  exact ⟨S, l, v, h1.on (fun k e => hB.block k (h4 k e).2.1), h2.below hB, h3, fun k e => ⟨(h4 k e).1, by have := (h4 k e).2.1; have := hB.size; omega, (h4 k e).2.2⟩, h5⟩
end
end Go.Proofs.Ytmeoonnofiicpaa.W.R5
