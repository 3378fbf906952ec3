import Derived.Test.YtdafcfmbnlgbfaaS7dJ
/- StorePacks: a store and a map of one's own, its steps. -/
namespace Go.Proofs.Ytdafcfmbnlgbfaa.W
open Go.ChangeShapes Go.WideShapes Go.RowKit Go.Shelf
set_option linter.unusedVariables false
theorem underM : Try.prog.underlying 25 = some (.map 3 3) := by kernel_rfl
theorem underI : Try.prog.underlying 3 = some (.int .i64) := by kernel_rfl
theorem lawI : Maps.Keyed Try.prog 3 := Maps.int_keyed underI
theorem zeroI (w : World) : (zeroValue 3).run Try.prog w = .ok (.int .i64 0) w := by kernel_rfl
theorem map_on {W W' : World} {b n : Nat} {D : Dm} (h : W.ownsMap Try.prog 3 (plainElem (H := Unit) Try.prog 3) b n D) (hb : W'.heap[b]? = W.heap[b]?) : W'.ownsMap Try.prog 3 (plainElem (H := Unit) Try.prog 3) b n D := by
  obtain ⟨es, clock, h1, h2⟩ := h
  exact ⟨es, clock, hb.trans h1, h2⟩
theorem ranges_on {W W' : World} {b r n cnt : Nat} {D : Dm} {left : Lit → Bool} (h : W.ranges Try.prog 3 (plainElem (H := Unit) Try.prog 3) b r n D left cnt) (hb : W'.heap[b]? = W.heap[b]?) (hr : W'.heap[r]? = W.heap[r]?) : W'.ranges Try.prog 3 (plainElem (H := Unit) Try.prog 3) b r n D left cnt := by
  obtain ⟨es, clock, since, seen, c0, h1, h2, h3, h4, h5, h6⟩ := h
  exact ⟨es, clock, since, seen, c0, hb.trans h1, h2, h3, h4, hr.trans h5, h6⟩
/-- a store that was made behind w; K: blocks that are none of its -/
structure Pw (w W : World) (sb : Nat) (A : List (Option (List Nat))) (K : Nat → Prop) : Prop where
  st : ∃ S, St W S sb A 20000 100 ∧ (∀ k, S k → w.heap.size ≤ k ∧ k < W.heap.size) ∧ ∀ k, K k → k < W.heap.size ∧ ¬ S k
  bel : Below w.heap.size w W
section
variable {w W W' : World} {sb n : Nat} {A A' : List (Option (List Nat))} {K : Nat → Prop} {D : Dm}
/-- what a call of the store's leaves -/
theorem Pw.step {S : Nat → Prop} (h1 : ∀ k, S k → w.heap.size ≤ k ∧ k < W.heap.size) (h2 : ∀ k, K k → k < W.heap.size ∧ ¬ S k) (hb : Below w.heap.size w W) (hU : Upd S W W') (hS : St W' (Nx S W W') sb A' 20000 100) : Pw w W' sb A' K ∧ ∀ k, K k → W'.heap[k]? = W.heap[k]? := by
  have z := hU.size
  have zb := hb.size
  refine ⟨⟨⟨_, hS, ?_, fun k e => ⟨by have := (h2 k e).1; omega, ?_⟩⟩, hb.trans (hU.below zb (fun k e => (h1 k e).1))⟩, fun k e => hU.block k (h2 k e).1 (h2 k e).2⟩
  · rintro k (e | e)
    · exact ⟨(h1 k e).1, by have := (h1 k e).2; omega⟩
    · exact ⟨by omega, e.2⟩
  · rintro (e2 | e2)
    · exact (h2 k e).2 e2
    · have := (h2 k e).1; omega
theorem Pw.take (p : Pw w W sb A K) (m : Nat) (hm : m ≤ 200) (hs : sumA A + up8N m ≤ 20000) (hl : A.length < 100) : Calls Try.prog 5 #[.pointer (some ⟨sb, 0, none⟩), .int .i64 m] W fun e w' => e = .returned (.tuple #[.int .i64 (leastA A : Nat), .int .i64 0]) ∧ Pw w w' sb (putA A (leastA A) (some (List.replicate m 0))) K ∧ ∀ k, K k → w'.heap[k]? = W.heap[k]? := by
  obtain ⟨⟨S, h1, h2, h3⟩, hb⟩ := p
  refine (take_st h1 m (by omega) hs hl).mono ?_
  rintro e w' ⟨rfl, hU, hS⟩
  exact ⟨rfl, Pw.step h2 h3 hb hU hS⟩
theorem Pw.save (p : Pw w W sb A K) (id : Nat) (x : List Nat) (hx : A[id]? = some (some x)) (o v : Nat) (hv : v < 18446744073709551616) (ho : o + 1 ≤ x.length) : Calls Try.prog 6 #[.pointer (some ⟨sb, 0, none⟩), .int .i64 id, .int .i64 o, .int .i64 1, .int .u64 v] W fun e w' => e = .returned (.int .i64 0) ∧ Pw w w' sb (A.set id (some (saved x o v 1))) K ∧ ∀ k, K k → w'.heap[k]? = W.heap[k]? := by
  obtain ⟨⟨S, h1, h2, h3⟩, hb⟩ := p
  refine (save_st h1 id x hx o 1 v hv (.inl rfl) (Nat.mod_one _) ho).mono ?_
  rintro e w' ⟨rfl, hU, hS⟩
  exact ⟨rfl, Pw.step h2 h3 hb hU (hS.mono (fun k e => .inl e))⟩
theorem Pw.give (p : Pw w W sb A K) (id : Nat) (x : List Nat) (hx : A[id]? = some (some x)) : Calls Try.prog 7 #[.pointer (some ⟨sb, 0, none⟩), .int .i64 id] W fun e w' => e = .returned (.int .i64 0) ∧ Pw w w' sb (A.set id none) K ∧ ∀ k, K k → w'.heap[k]? = W.heap[k]? := by
  obtain ⟨⟨S, h1, h2, h3⟩, hb⟩ := p
  refine (give_st h1 id x hx).mono ?_
  rintro e w' ⟨rfl, hU, hS⟩
  exact ⟨rfl, Pw.step h2 h3 hb hU hS⟩
/-- blocks that are kept aside may change; new ones come -/
theorem Pw.upd {D : Nat → Prop} (p : Pw w W sb A K) (hU : Upd D W W') (hD : ∀ k, D k → K k ∧ w.heap.size ≤ k) : Pw w W' sb A (fun k => K k ∨ (W.heap.size ≤ k ∧ k < W'.heap.size)) := by
  obtain ⟨⟨S, h1, h2, h3⟩, hb⟩ := p
  have z := hU.size
  refine ⟨⟨S, h1.on (fun k e => hU.block k (h2 k e).2 (fun d => (h3 k (hD k d).1).2 e)), fun k e => ⟨(h2 k e).1, by have := (h2 k e).2; omega⟩, ?_⟩, hb.trans (hU.below hb.size (fun k e => (hD k e).2))⟩
  rintro k (e | e)
  · exact ⟨by have := (h3 k e).1; omega, (h3 k e).2⟩
  · exact ⟨e.2, fun e2 => by have := (h2 k e2).2; omega⟩
theorem Pw.sub {K' : Nat → Prop} (p : Pw w W sb A K) (h : ∀ k, K' k → K k) : Pw w W sb A K' := by
  obtain ⟨⟨S, h1, h2, h3⟩, hb⟩ := p
  exact ⟨⟨S, h1, h2, fun k e => h3 k (h k e)⟩, hb⟩
theorem Pw.below (p : Pw w W sb A K) (hB : Below W.heap.size W W') : Pw w W' sb A K := (p.upd (D := fun _ => False) (Upd.of_below hB) (fun k e => e.elim)).sub (fun k e => .inl e)
theorem Pw.load (p : Pw w W sb A K) (id : Nat) (x : List Nat) (hx : A[id]? = some (some x)) (o : Nat) (ho : o + 1 ≤ x.length) : Calls Try.prog 9 #[.pointer (some ⟨sb, 0, none⟩), .int .i64 id, .int .i64 o, .int .i64 1] W fun e w' => e = .returned (.tuple #[.int .u64 (leN (seg x o 1)), .int .i64 0]) ∧ Below W.heap.size W w' := by
  obtain ⟨⟨S, h1, h2, h3⟩, hb⟩ := p
  exact load_st h1 id x hx o 1 (.inl rfl) (Nat.mod_one _) ho
theorem Pw.len (p : Pw w W sb A K) (id : Nat) (x : List Nat) (hx : A[id]? = some (some x)) : Calls Try.prog 10 #[.pointer (some ⟨sb, 0, none⟩), .int .i64 id] W fun e w' => e = .returned (.tuple #[.int .i64 x.length, .int .i64 0]) ∧ w' = W := by
  obtain ⟨⟨S, h1, h2, h3⟩, hb⟩ := p
  exact len_st h1 id x hx
/-- packed -/
structure Pt2 (w W : World) (sb : Nat) (A : List (Option (List Nat))) (K : Nat → Prop) : Prop where
  st : ∃ S, StT W S sb A 20000 100 ∧ (∀ k, S k → w.heap.size ≤ k ∧ k < W.heap.size) ∧ ∀ k, K k → k < W.heap.size ∧ ¬ S k
  bel : Below w.heap.size w W
theorem Pt2.pw (p : Pt2 w W sb A K) : Pw w W sb A K := by
  obtain ⟨⟨S, h1, h2, h3⟩, hb⟩ := p
  exact ⟨⟨S, h1.st, h2, h3⟩, hb⟩
theorem Pw.pack (p : Pw w W sb A K) : Calls Try.prog 8 #[.pointer (some ⟨sb, 0, none⟩)] W fun e w' => e = .returned (.tuple #[]) ∧ Pt2 w w' sb A K ∧ ∀ k, K k → w'.heap[k]? = W.heap[k]? := by
  obtain ⟨⟨S, h1, h2, h3⟩, hb⟩ := p
  refine (pack_stT h1).mono ?_
  rintro e w' ⟨rfl, hU, hS⟩
  have z := hU.size
  exact ⟨rfl, ⟨⟨S, hS, fun k e => ⟨(h2 k e).1, by have := (h2 k e).2; omega⟩, fun k e => ⟨by have := (h3 k e).1; omega, (h3 k e).2⟩⟩, hb.trans (hU.below hb.size (fun k e => (h2 k e).1))⟩, fun k e => hU.block k (h3 k e).1 (h3 k e).2⟩
theorem StT.on {S : Nat → Prop} {U N : Nat} (h : StT W S sb A U N) (hk : ∀ k, S k → W'.heap[k]? = W.heap[k]?) : StT W' S sb A U N := by
  obtain ⟨s, E, vr, vb, vf, hL, hO, f⟩ := h
  exact ⟨s, E, vr, vb, vf, hL.kept (hk _ hO.sb) (fun k e => hk k (hO.row k e)) (fun k e => hk k (hO.blk k e)) (fun k e => hk k (hO.free k e)), hO, f⟩
theorem Pt2.upd {D : Nat → Prop} (p : Pt2 w W sb A K) (hU : Upd D W W') (hD : ∀ k, D k → K k ∧ w.heap.size ≤ k) : Pt2 w W' sb A (fun k => K k ∨ (W.heap.size ≤ k ∧ k < W'.heap.size)) := by
  obtain ⟨⟨S, h1, h2, h3⟩, hb⟩ := p
  have z := hU.size
  refine ⟨⟨S, h1.on (fun k e => hU.block k (h2 k e).2 (fun d => (h3 k (hD k d).1).2 e)), fun k e => ⟨(h2 k e).1, by have := (h2 k e).2; omega⟩, ?_⟩, hb.trans (hU.below hb.size (fun k e => (hD k e).2))⟩
  rintro k (e | e)
  · exact ⟨by have := (h3 k e).1; omega, (h3 k e).2⟩
  · exact ⟨e.2, fun e2 => by have := (h2 k e2).2; omega⟩
theorem Pt2.sub {K' : Nat → Prop} (p : Pt2 w W sb A K) (h : ∀ k, K' k → K k) : Pt2 w W sb A K' := by
  obtain ⟨⟨S, h1, h2, h3⟩, hb⟩ := p
  exact ⟨⟨S, h1, h2, fun k e => h3 k (h k e)⟩, hb⟩
theorem Pt2.below (p : Pt2 w W sb A K) (hB : Below W.heap.size W W') : Pt2 w W' sb A K := (p.upd (D := fun _ => False) (Upd.of_below hB) (fun k e => e.elim)).sub (fun k e => .inl e)
theorem Pt2.span (p : Pt2 w W sb A K) : Calls Try.prog 13 #[.pointer (some ⟨sb, 0, none⟩)] W fun e w' => e = .returned (.int .i64 (sumA A : Nat)) ∧ w' = W := by
  obtain ⟨⟨S, h1, h2, h3⟩, hb⟩ := p
  exact span_stT h1
theorem Pw.used (p : Pw w W sb A K) : Calls Try.prog 12 #[.pointer (some ⟨sb, 0, none⟩)] W fun e w' => e = .returned (.int .i64 (sumA A : Nat)) ∧ w' = W := by
  obtain ⟨⟨S, h1, h2, h3⟩, hb⟩ := p
  exact used_st h1
/-- what Extents asks, as long as one block of one's own is written -/
theorem Pw.tells (p : Pw w W sb A K) {cb Bc : Nat} (hk : K cb) (hB : W.cell? ⟨Bc, 0, none⟩ = some (.pointer (some ⟨sb, 0, none⟩))) (hne : Bc ≠ cb) : ∃ l : List Tr, l.length = cntA A ∧ ∀ W', Upd (fun k => k = cb) W W' → (W'.cell? ⟨Bc, 0, none⟩ = some (.pointer (some ⟨sb, 0, none⟩)) ∧ Tells W' sb l) := by
  obtain ⟨⟨S, ⟨s, E, vr, vb, vf, hL, hO, f⟩, h2, h3⟩, hb⟩ := p
  have nS := (h3 cb hk).2
  have hEl : E.length ≤ s.blks.length := by
    have h1 := ext_count f.good f.all
    have h4 : cntA A ≤ A.length := List.length_filter_le _ _
    have h5 := f.all.1
    unfold extL trE at h1
    rw [List.length_append, List.length_map] at h1
    omega
  have hn := f.num
  have hn9 := f.n9
  have h5 := f.all.1
  refine ⟨extL s E, ext_count f.good f.all, fun W' hU => ⟨?_, vr, vb, vf, s, E, hL.kept (hU.block _ (h2 _ hO.sb).2 (fun e => nS (e ▸ hO.sb))) (fun k e => hU.block _ (h2 _ (hO.row k e)).2 (fun e' => nS (e' ▸ hO.row k e))) (fun k e => hU.block _ (h2 _ (hO.blk k e)).2 (fun e' => nS (e' ▸ hO.blk k e))) (fun k e => hU.block _ (h2 _ (hO.free k e)).2 (fun e' => nS (e' ▸ hO.free k e))), f.fit, f.good, by omega, by omega, rfl⟩⟩
  rw [World.cell?_of_block (hU.block Bc (World.block_lt_of_cell? W _ hB) hne)]
  exact hB
end
theorem pw_new (w : World) : Calls Try.prog 4 #[] w fun e w' => e = .returned (.pointer (some ⟨w.heap.size, 0, none⟩)) ∧ Pw w w' w.heap.size [] (fun k => k < w.heap.size) ∧ w'.heap.size = w.heap.size + 1 := by
  refine (new_st w 20000 100 (by decide) (by decide)).mono ?_
  rintro e w' ⟨rfl, hS, hB, hz⟩
  exact ⟨rfl, ⟨⟨_, hS, fun k e => ⟨by omega, by omega⟩, fun k e => ⟨by omega, fun e2 => by omega⟩⟩, hB⟩, hz⟩
theorem up8N_200 (m : Nat) (h : m ≤ 200) : up8N m ≤ 200 := by unfold up8N; omega
/-- the last byte is written -/
theorem last_saved (m v : Nat) (hm : 0 < m) : (saved (List.replicate m 0) (m - 1) v 1).length = m ∧ (saved (List.replicate m 0) (m - 1) v 1)[m - 1]? = some (v % 256) := by
  have hl : (saved (List.replicate m 0) (m - 1) v 1).length = m := by rw [saved_len, List.length_replicate]
  refine ⟨hl, ?_⟩
  rw [saved_get _ _ _ _ _ (by rw [List.length_replicate]; omega), if_pos ⟨Nat.le_refl _, by omega⟩, Nat.sub_self]
  simp
theorem seg_one (x : List Nat) (o b : Nat) (h : x[o]? = some b) : leN (seg x o 1) = b := by
  have hl := (List.getElem?_eq_some_iff.1 h).1
  have e : seg x o 1 = [b] := by
    unfold seg
    rw [List.drop_eq_getElem_cons hl, (List.getElem?_eq_some_iff.1 h).2]
    rfl
  rw [e]
  simp [leN]
end Go.Proofs.Ytdafcfmbnlgbfaa.W
