import Derived.Test.YtaebnnkhjlidiaaBase9
import Derived.Test.YtaebnnkhjlidiaaBase8
/- HeapCopies: a buffer and a row, and copies of them. -/
namespace Go.Proofs.Ytaebnnkhjlidiaa.W
open Go.ChangeShapes Go.WideShapes Go.RowKit Go.Shelf
set_option linter.unusedVariables false
def hcH (bs ws : List Nat) : List (Option Hc) := [some (.buf 8 bs), some (.row ws)]
theorem hc_hit0 (bs ws : List Nat) : hit (hcH bs ws) (hw 0) = some 0 := hit_hw (by decide) (show (hcH bs ws)[0]? = some (some (.buf 8 bs)) from rfl)
theorem hc_hit1 (bs ws : List Nat) : hit (hcH bs ws) (hw 1) = some 1 := hit_hw (by decide) (show (hcH bs ws)[1]? = some (some (.row ws)) from rfl)
theorem hc_spot (bs ws : List Nat) : Spot (hcH bs ws) (hw 0) 8 0 0 bs.length 8 bs := ⟨hw_lt 0 (by decide), rfl, by omega, 0, hc_hit0 bs ws, .inl ⟨rfl, rfl, rfl, rfl, rfl⟩⟩
/-- j nines, then noughts -/
def nin (n j : Nat) : List Nat := List.replicate j 9 ++ List.replicate (n - j) 0
theorem nin_len {n j : Nat} (h : j ≤ n) : (nin n j).length = n := by unfold nin; rw [List.length_append, List.length_replicate, List.length_replicate]; omega
theorem nin_get {n j i : Nat} (h1 : j ≤ i) (h2 : i < n) : (nin n j)[i]? = some 0 := by
  unfold nin
  rw [List.getElem?_append_right (by rw [List.length_replicate]; exact h1), List.length_replicate, List.getElem?_replicate, if_pos (by omega)]
theorem nin_set {n j : Nat} (h : j < n) : (nin n j).set j 9 = nin n (j + 1) := by
  apply List.ext_getElem?
  intro i
  by_cases e : i = j
  · subst e
    rw [List.getElem?_set_self (by rw [nin_len (by omega)]; exact h)]
    unfold nin
    rw [List.getElem?_append_left (by rw [List.length_replicate]; omega), List.getElem?_replicate, if_pos (by omega)]
  · rw [List.getElem?_set_ne (Ne.symm e)]
    by_cases c : i < j
    · unfold nin
      rw [List.getElem?_append_left (by rw [List.length_replicate]; exact c), List.getElem?_append_left (by rw [List.length_replicate]; omega), List.getElem?_replicate, List.getElem?_replicate, if_pos c, if_pos (by omega)]
    · by_cases d : i < n
      · rw [nin_get (by omega) d, nin_get (by omega) d]
      · rw [List.getElem?_eq_none (by rw [nin_len (by omega)]; omega), List.getElem?_eq_none (by rw [nin_len (by omega)]; omega)]
section
variable {W0 W W1 : World} {hb : Nat} {K : Nat → Prop}
theorem hc_row (n : Nat) (hn : n ≤ 200) (q : Hf W0 W hb [some (.buf 8 (List.replicate n 0))] 1000 K) (hBm : Below W.heap.size W W1) (hlm : W.heap.size < W1.heap.size) (hws : WordsAt W1 (.slice (some ⟨W.heap.size, 0, none⟩) n n) (List.replicate n 0)) :
    Calls Try.prog 12 #[.pointer (some ⟨hb, 0, none⟩), .agg #[.int .i64 9, .bool false, .int .i64 0, .string ⟨#[]⟩, .slice none 0 0, .slice (some ⟨W.heap.size, 0, none⟩) n n, .int .u64 0, .int .i64 0, .int .i64 0], .slice (some ⟨W1.heap.size, 0, none⟩) 1 1] (W1.alloc (.cells #[.int .u64 (hw 0 : Nat)] 24)) fun e w' => e = .returned (.tuple #[.int .u64 (hw 1 : Nat), .int .i64 0]) ∧ Hf W0 w' hb (hcH (List.replicate n 0) (List.replicate n 0)) 1000 K := by
  have hl : (List.replicate n 0).length = n := List.length_replicate
  have hA : Below W1.heap.size W1 (W1.alloc (.cells #[.int .u64 (hw 0 : Nat)] 24)) := (Below.refl _ W1).alloc (Nat.le_refl _) _
  have hs : (W1.alloc (.cells #[.int .u64 (hw 0 : Nat)] 24)).heap.size = W1.heap.size + 1 := World.size_alloc ..
  have hB := hBm.trans (hA.mono hBm.size)
  have hr := words_new W1 [hw 0] _ (by intro x hx; rw [List.mem_singleton.1 hx]; exact hw_lt 0 (by decide)) (by simp) rfl 24
  have := hf_row (q.below hB) (List.replicate n 0) (by rw [hl]; omega) (fun x hx => by rw [(List.mem_replicate.1 hx).2]; decide) (fun x hx => by rw [(List.mem_replicate.1 hx).2]; exact isVal_zero _) (some ⟨W.heap.size, 0, none⟩) n (by rw [hl]; exact words_below hws hA) (fun x e => by cases e; exact .inr ⟨Nat.le_refl _, by show W.heap.size < _; omega⟩) (by show (Hc.buf 8 (List.replicate n 0)).need + 0 + _ ≤ 1000; rw [bufn_need, row_need, hl]; omega) (.slice (some ⟨W1.heap.size, 0, none⟩) 1 1) [hw 0] hr
  rw [hl] at this
  refine this.mono ?_
  rintro e w' ⟨rfl, h1, h2⟩
  exact ⟨rfl, h1.sub (fun k e => .inl e)⟩
theorem hc_getb (bs ws : List Nat) (n : Nat) (hl : bs.length = n) (q : Hf W0 W hb (hcH bs ws) 1000 K) : Calls Try.prog 14 #[.pointer (some ⟨hb, 0, none⟩), .int .u64 (hw 0 : Nat)] W fun e w' => ∃ gb, e = .returned (.tuple #[.agg #[.int .i64 8, .bool false, .int .i64 0, .string ⟨#[]⟩, .slice (some ⟨gb, 0, none⟩) n n, .slice none 0 0, .int .u64 0, .int .i64 0, .int .i64 0], .int .i64 0]) ∧ W.heap.size ≤ gb ∧ Below W.heap.size W w' ∧ w'.ownsRow W.heap.size 5 1 (.slice (some ⟨gb, 0, none⟩) n n) n (bs.map byteV) := by
  subst hl
  obtain ⟨sb, vc, T, l⟩ := q.lay
  exact get_buf l (hw 0) (hw_lt 0 (by decide)) 0 (hc_hit0 bs ws) 8 bs rfl
theorem hc_getr (bs ws : List Nat) (n : Nat) (hl : ws.length = n) (h0 : 0 < n) (q : Hf W0 W hb (hcH bs ws) 1000 K) : Calls Try.prog 14 #[.pointer (some ⟨hb, 0, none⟩), .int .u64 (hw 1 : Nat)] W fun e w' => ∃ qb cap, e = .returned (.tuple #[.agg #[.int .i64 9, .bool false, .int .i64 0, .string ⟨#[]⟩, .slice none 0 0, .slice (some ⟨qb, 0, none⟩) n cap, .int .u64 0, .int .i64 0, .int .i64 0], .int .i64 0]) ∧ W.heap.size ≤ qb ∧ Below W.heap.size W w' ∧ w'.ownsRow W.heap.size 24 1 (.slice (some ⟨qb, 0, none⟩) n cap) n (ws.map (fun x => .int .u64 (x : Nat))) := by
  subst hl
  obtain ⟨sb, vc, T, l⟩ := q.lay
  refine (get_row l (hw 1) (hw_lt 1 (by decide)) 1 (hc_hit1 bs ws) ws rfl).mono ?_
  rintro e w' ⟨o, cap, rfl, hB, ho⟩
  rcases ho.2 with ⟨hv, h9⟩ | ⟨g, c, cur, hv, hb2, _⟩
  · omega
  · cases hv
    exact ⟨g, cap, rfl, hb2, hB, ho⟩
theorem hc_write (n at' y : Nat) (h : at' < n) (hy : y < 256) (ws : List Nat) (q : Hf W0 W hb (hcH (List.replicate n 0) ws) 1000 K) : Calls Try.prog 18 #[.pointer (some ⟨hb, 0, none⟩), .int .u64 (hw 0 : Nat), .int .i64 at', .int .i64 1, .int .u64 y] W fun e w' => e = .returned (.int .i64 0) ∧ Hf W0 w' hb (hcH (saved (List.replicate n 0) at' y 1) ws) 1000 K ∧ Upd (Ch W0 K) W w' := by
  have := hf_write q (hc_spot _ ws) 1 (.inl rfl) at' (by rw [List.length_replicate]; omega) (Nat.mod_one _) y (by omega)
  rw [Nat.zero_add] at this
  exact this
theorem hc_setr (bs : List Nat) (n at' : Nat) (h : at' < n) (q : Hf W0 W hb (hcH bs (List.replicate n 0)) 1000 K) : Calls Try.prog 15 #[.pointer (some ⟨hb, 0, none⟩), .int .u64 (hw 1 : Nat), .int .i64 at', .int .u64 (hw 0 : Nat)] W fun e w' => e = .returned (.int .i64 0) ∧ Hf W0 w' hb (hcH bs ((List.replicate n 0).set at' (hw 0))) 1000 K ∧ Upd (Ch W0 K) W w' :=
  hf_set q (hw 1) (hw_lt 1 (by decide)) 1 (hc_hit1 bs _) _ rfl at' (by rw [List.length_replicate]; exact h) (hw 0) (hw_lt 0 (by decide)) (isVal_hw (by decide) (show (hcH bs (List.replicate n 0))[0]? = some (some (.buf 8 bs)) from rfl))
end
/-- the two copies, of which j elements have been written over -/
structure Cp (w wr : World) (hb gb qb cap B13 B15 n j : Nat) (H : List (Option Hc)) (K : Nat → Prop) : Prop where
  hf : Hf w wr hb H 1000 K
  kg : K gb ∧ w.heap.size ≤ gb
  kq : K qb ∧ w.heap.size ≤ qb
  kb : K B13 ∧ K B15 ∧ w.heap.size ≤ B13 ∧ w.heap.size ≤ B15
  rb : wr.ownsRow w.heap.size 5 1 (.slice (some ⟨gb, 0, none⟩) n n) n ((nin n j).map byteV)
  rw : wr.ownsRow w.heap.size 24 1 (.slice (some ⟨qb, 0, none⟩) n cap) n ((nin n j).map (fun x => .int .u64 (x : Nat)))
  x13 : wr.heap[B13]? = some (.cells #[.int .i64 8, .bool false, .int .i64 0, .string ⟨#[]⟩, .slice (some ⟨gb, 0, none⟩) n n, .slice none 0 0, .int .u64 0, .int .i64 0, .int .i64 0] 26)
  x15 : wr.heap[B15]? = some (.cells #[.int .i64 9, .bool false, .int .i64 0, .string ⟨#[]⟩, .slice none 0 0, .slice (some ⟨qb, 0, none⟩) n cap, .int .u64 0, .int .i64 0, .int .i64 0] 26)
section
variable {w wr : World} {hb gb qb cap B13 B15 n j : Nat} {H : List (Option Hc)} {K : Nat → Prop}
theorem Cp.ne (c : Cp w wr hb gb qb cap B13 B15 n j H K) : gb ≠ qb ∧ gb ≠ B13 ∧ gb ≠ B15 ∧ qb ≠ B13 ∧ qb ≠ B15 := by
  obtain ⟨cg, h1⟩ : ∃ cur, wr.heap[gb]? = some (.cells cur 5 (0, 0)) := by
    rcases c.rb.2 with ⟨hv, _⟩ | ⟨g, cp, cur, hv, _, h, _⟩
    · cases hv
    · cases hv; exact ⟨cur, h⟩
  obtain ⟨cq, h2⟩ : ∃ cur, wr.heap[qb]? = some (.cells cur 24 (0, 0)) := by
    rcases c.rw.2 with ⟨hv, _⟩ | ⟨g, cp, cur, hv, _, h, _⟩
    · cases hv
    · cases hv; exact ⟨cur, h⟩
  refine ⟨?_, ?_, ?_, ?_, ?_⟩
  · rintro rfl; rw [h1] at h2; simp at h2
  · rintro rfl; have := c.x13; rw [h1] at this; simp at this
  · rintro rfl; have := c.x15; rw [h1] at this; simp at this
  · rintro rfl; have := c.x13; rw [h2] at this; simp at this
  · rintro rfl; have := c.x15; rw [h2] at this; simp at this
theorem Cp.cells (c : Cp w wr hb gb qb cap B13 B15 n j H K) (hj : j < n) : wr.cell? ⟨gb, j, none⟩ = some (.int .u8 0) ∧ wr.cell? ⟨qb, j, none⟩ = some (.int .u64 0) ∧ (∀ i, wr.frozen? ⟨gb, i, none⟩ = false) ∧ ∀ i, wr.frozen? ⟨qb, i, none⟩ = false := by
  refine ⟨own_at c.rb j (byteV 0) (by rw [List.getElem?_map, nin_get (Nat.le_refl _) hj]; rfl), own_at c.rw j _ (by rw [List.getElem?_map, nin_get (Nat.le_refl _) hj]; rfl), fun i => ?_, fun i => ?_⟩
  · rcases c.rb.2 with ⟨hv, _⟩ | ⟨g, cp, cur, hv, _, h, _⟩
    · cases hv
    · cases hv; simp [World.frozen?, h]
  · rcases c.rw.2 with ⟨hv, _⟩ | ⟨g, cp, cur, hv, _, h, _⟩
    · cases hv
    · cases hv; simp [World.frozen?, h]
theorem Cp.step (c : Cp w wr hb gb qb cap B13 B15 n j H K) (hj : j < n) : Cp w ((wr.setCell ⟨gb, j, none⟩ (.int .u8 9)).setCell ⟨qb, j, none⟩ (.int .u64 9)) hb gb qb cap B13 B15 n (j + 1) H K := by
  obtain ⟨n1, n2, n3, n4, n5⟩ := c.ne
  have hU : Upd (fun k => k = gb ∨ k = qb) wr ((wr.setCell ⟨gb, j, none⟩ (.int .u8 9)).setCell ⟨qb, j, none⟩ (.int .u64 9)) := ((Upd.refl (fun k => k = gb ∨ k = qb) wr).setCell (p := ⟨gb, j, none⟩) (.inl (.inl rfl)) _).setCell (p := ⟨qb, j, none⟩) (.inl (.inr rfl)) _
  have s1 := (c.rb.stored j (byteV 9)).1
  have e9 : ((nin n j).map byteV).set j (byteV 9) = (nin n (j + 1)).map byteV := by rw [← nin_set hj, List.map_set]
  rw [e9] at s1
  have s2 : (wr.setCell ⟨gb, j, none⟩ (.int .u8 9)).ownsRow w.heap.size 24 1 (.slice (some ⟨qb, 0, none⟩) n cap) n ((nin n j).map (fun x => .int .u64 (x : Nat))) := owns_on c.rw (fun k e => by cases e; exact Below.heap_setCell _ _ _ _ (Ne.symm n1))
  have s3 := (s2.stored j (.int .u64 9)).1
  have e9' : ((nin n j).map (fun x => Value.int .u64 (x : Nat))).set j (.int .u64 9) = (nin n (j + 1)).map (fun x => .int .u64 (x : Nat)) := by rw [← nin_set hj, List.map_set]; rfl
  rw [e9'] at s3
  refine ⟨c.hf.upd hU ?_, c.kg, c.kq, c.kb, ?_, s3, ?_, ?_⟩
  · rintro k (rfl | rfl)
    · exact c.kg
    · exact c.kq
  · exact owns_on s1 (fun k e => by cases e; exact Below.heap_setCell _ _ _ _ n1)
  · rw [Below.heap_setCell _ _ _ _ (Ne.symm n4), Below.heap_setCell _ _ _ _ (Ne.symm n2)]; exact c.x13
  · rw [Below.heap_setCell _ _ _ _ (Ne.symm n5), Below.heap_setCell _ _ _ _ (Ne.symm n3)]; exact c.x15
end
end Go.Proofs.Ytaebnnkhjlidiaa.W
