import Derived.Test.YtaebnnkhjlidiabKs2J
/- Two heaps of rows of noughts, and the words that are kept of each: HeapSame's state. -/
namespace Go.Proofs.Ytaebnnkhjlidiab.W
open Go.ChangeShapes Go.WideShapes Go.RowKit Go.Shelf
set_option linter.unusedVariables false
section
variable {W0 W W1 W' : World} {ha hb : Nat} {Ha Hb : List (Option Hc)} {u : Nat} {K K' : Nat → Prop}
/-- a word is put behind; where the row lies then -/
theorem two_append (q : TwoH W0 W ha hb Ha Hb u K) (ty : TypeId) (v : Value) (ws : List Nat) (o : Mine W0 W K v ws) (x : Nat) (hx : x < 18446744073709551616) (hl : ws.length < 900000) :
    ∃ v' w', (Builtin.append_ #[28, 28] ty #[v, .slice (some ⟨W.heap.size, 0, none⟩) 1 1]).run Try.prog (W.alloc (.cells #[.int .u64 (x : Nat)] 30)) = .ok v' w' ∧ TwoH W0 w' ha hb Ha Hb u (fun k => K k ∨ (W.heap.size ≤ k ∧ k < w'.heap.size)) ∧ Mine W0 w' (fun k => K k ∨ (W.heap.size ≤ k ∧ k < w'.heap.size)) v' (ws ++ [x]) ∧ Upd (fun k => v.ownBlock = some k) W w' ∧ ∀ k, v'.ownBlock = some k → v.ownBlock = some k ∨ W.heap.size ≤ k := by
  obtain ⟨i0, hi, hz0, hz1, hz2⟩ := info_parts infoW
  have hB1 : Below W.heap.size W (W.alloc (.cells #[.int .u64 (x : Nat)] 30)) := (Below.refl _ W).alloc (Nat.le_refl _) _
  have z1 : (W.alloc (.cells #[.int .u64 (x : Nat)] 30)).heap.size = W.heap.size + 1 := World.size_alloc ..
  have e0 := World.cell?_alloc_new W #[.int .u64 (x : Nat)] 30
  have ho := o.row.alloc (.cells #[.int .u64 (x : Nat)] 30)
  obtain ⟨v', w', hrun, ho', hg, hk⟩ := append_at (P := Try.prog) (W.alloc (.cells #[.int .u64 (x : Nat)] 30)) 28 ty 30 i0 (.int .u64 0) 1 8 underW hi hz0 hz1 hz2 rfl (by omega) v ws.length (wds ws) (owns_base ho (fun _ _ => Nat.zero_le _)) ⟨W.heap.size, 0, none⟩ 1 1 [.int .u64 (x : Nat)] (by simp) (by
    intro j y hj
    have hj0 : j = 0 := by have := (List.getElem?_eq_some_iff.1 hj).1; simp at this; exact this
    subst hj0
    simp at hj
    subst hj
    have e1 : ((⟨W.heap.size, 0, none⟩ : Addr).add 0) = ⟨W.heap.size, 0, none⟩ := by unfold Addr.add; split <;> simp_all
    rw [e1, e0 0]; rfl) (by intro y hy; simp at hy; rw [hy]; rfl) (by omega) (by omega) (by omega)
  have hlo : ∀ k, v.ownBlock = some k → W0.heap.size ≤ k ∧ k < W.heap.size := fun k e => o.row.lt k e
  have q0 := q.1.size
  have hU1 : Upd (fun k => v.ownBlock = some k) (W.alloc (.cells #[.int .u64 (x : Nat)] 30)) w' := (Upd.refl _ _).grown hg (fun k e => .inl e)
  have hU : Upd (fun k => v.ownBlock = some k) W w' := (Upd.of_below hB1).trans' hU1
  refine ⟨v', w', hrun, q.upd hU (fun k e => ⟨o.keep k e, (hlo k e).1⟩), ⟨?_, ?_, ?_, by simp; omega⟩, hU, ?_⟩
  · have := owns_base ho' (b' := W0.heap.size) (fun g e => by rcases hk g e with e | e
                                                              · exact (hlo g e).1
                                                              · omega)
    unfold wds at *
    rw [List.length_append, List.map_append]
    exact this
  · intro k e
    rcases hk k e with e | e
    · exact .inl (o.keep k e)
    · exact .inr ⟨by omega, e.2⟩
  · intro y hy
    rcases List.mem_append.1 hy with h | h
    · exact o.lt y h
    · simp at h; rw [h]; exact hx
  · intro k e
    rcases hk k e with e | e
    · exact .inl e
    · exact .inr (by omega)
end
/-- both heaps, and what is kept of each; j: how many rows were put at most -/
structure Sm (w W : World) (ha hb u j : Nat) (Ha Hb : List (Option Hc)) (ia ib : List Nat) (K : Nat → Prop) (vx vy : Value) : Prop where
  q : TwoH w W ha hb Ha Hb u K
  ka : Kp Ha ia
  kb : Kp Hb ib
  es : idsum Ha ia = idsum Hb ib
  x : Mine w W K vx (ia.map hw)
  y : Mine w W K vy (ib.map hw)
  ne : ∀ k, vx.ownBlock = some k → ¬ vy.ownBlock = some k
  la : Ha.length ≤ j
  lb : Hb.length ≤ j
  na : ia.length ≤ j
  nb : ib.length ≤ j
section
variable {w W W' : World} {ha hb u j : Nat} {Ha Hb : List (Option Hc)} {ia ib : List Nat} {K : Nat → Prop} {vx vy : Value}
theorem Sm.below (s : Sm w W ha hb u j Ha Hb ia ib K vx vy) (hB : Below W.heap.size W W') : Sm w W' ha hb u j Ha Hb ia ib (fun k => K k ∨ (W.heap.size ≤ k ∧ k < W'.heap.size)) vx vy :=
  ⟨s.q.below hB, s.ka, s.kb, s.es, (s.x.below hB).sub (fun k e => .inl e), (s.y.below hB).sub (fun k e => .inl e), s.ne, s.la, s.lb, s.na, s.nb⟩
theorem Sm.below' (s : Sm w W ha hb u j Ha Hb ia ib K vx vy) (hB : Below W.heap.size W W') : Sm w W' ha hb u j Ha Hb ia ib K vx vy :=
  ⟨s.q.below' hB, s.ka, s.kb, s.es, s.x.below hB, s.y.below hB, s.ne, s.la, s.lb, s.na, s.nb⟩
theorem Sm.more (s : Sm w W ha hb u j Ha Hb ia ib K vx vy) {j' : Nat} (h : j ≤ j') : Sm w W ha hb u j' Ha Hb ia ib K vx vy :=
  ⟨s.q, s.ka, s.kb, s.es, s.x, s.y, s.ne, Nat.le_trans s.la h, Nat.le_trans s.lb h, Nat.le_trans s.na h, Nat.le_trans s.nb h⟩
theorem hw_small {i : Nat} (h : i ≤ 1000000) : hw i < 18446744073709551616 := by unfold hw; omega
/-- behind both Puts: what each answered, and what may be kept -/
structure SmB (w W : World) (ha hb u j n : Nat) (ia ib : List Nat) (K : Nat → Prop) (vx vy : Value) (p g q h : Nat) : Prop where
  eq : g = h
  gs : g = 0 ∨ g = 40
  stay : ∃ Ha Hb, Sm w W ha hb u (j + 1) Ha Hb ia ib K vx vy ∧ (g = 0 → ∃ i i', i ≤ j ∧ i' ≤ j ∧ p = hw i ∧ q = hw i' ∧ Kp Ha (ia ++ [i]) ∧ Kp Hb (ib ++ [i']) ∧ idsum Ha (ia ++ [i]) = idsum Hb (ib ++ [i']))
/-- behind the first Put -/
structure SmH (w W : World) (ha hb u j n : Nat) (ia ib : List Nat) (K : Nat → Prop) (vx vy : Value) (S : Nat) (p g : Nat) : Prop where
  stay : ∃ Ha Hb, TwoH w W ha hb Ha Hb u K ∧ Kp Ha ia ∧ Kp Hb ib ∧ idsum Ha ia = S ∧ idsum Hb ib = S ∧ Mine w W K vx (ia.map hw) ∧ Mine w W K vy (ib.map hw) ∧ (∀ k, vx.ownBlock = some k → ¬ vy.ownBlock = some k) ∧ Ha.length ≤ j + 1 ∧ Hb.length ≤ j ∧ ia.length ≤ j ∧ ib.length ≤ j ∧ ((S + (1 + n) ≤ u ∧ g = 0 ∧ ∃ i, i ≤ j ∧ p = hw i ∧ Kp Ha (ia ++ [i]) ∧ idsum Ha (ia ++ [i]) = S + (1 + n)) ∨ (u < S + (1 + n) ∧ g = 40 ∧ p = 0))
theorem Sm.first (s : Sm w W ha hb u j Ha Hb ia ib K vx vy) {n : Nat} {e : Ending} (h : RowPost w W ha hb Ha Hb u K ia n e W') : ∃ p g, e = .returned (.tuple #[.int .u64 (p : Nat), .int .i64 (g : Nat)]) ∧ SmH w W' ha hb u j n ia ib K vx vy (idsum Ha ia) p g := by
  obtain ⟨hU, H', t, k1, k2, k3, h⟩ := h
  have hx := s.x.upd hU
  have hy := s.y.upd hU
  have la := s.la
  rcases h with ⟨h1, i, h2, h3, h4, h5⟩ | ⟨h1, h2⟩
  · exact ⟨hw i, 0, h3, ⟨H', Hb, t, k1, s.kb, k2, s.es.symm, hx, hy, s.ne, by omega, s.lb, s.na, s.nb, .inl ⟨h1, rfl, i, by omega, rfl, h4, h5⟩⟩⟩
  · exact ⟨0, 40, h2, ⟨H', Hb, t, k1, s.kb, k2, s.es.symm, hx, hy, s.ne, by omega, s.lb, s.na, s.nb, .inr ⟨h1, rfl, rfl⟩⟩⟩
theorem SmH.below {n S p g : Nat} (s : SmH w W ha hb u j n ia ib K vx vy S p g) (hB : Below W.heap.size W W') : SmH w W' ha hb u j n ia ib (fun k => K k ∨ (W.heap.size ≤ k ∧ k < W'.heap.size)) vx vy S p g := by
  obtain ⟨Ha, Hb, t, k1, k2, k3, k4, hx, hy, r⟩ := s.stay
  exact ⟨Ha, Hb, t.below hB, k1, k2, k3, k4, (hx.below hB).sub (fun k e => .inl e), (hy.below hB).sub (fun k e => .inl e), r⟩
theorem SmH.words {n S p g : Nat} (s : SmH w W ha hb u j n ia ib K vx vy S p g) : WordsAt W vy (ib.map hw) ∧ ib.length ≤ j := by
  obtain ⟨Ha, Hb, t, k1, k2, k3, k4, hx, hy, h1, h2, h3, h4, h5, r⟩ := s.stay
  exact ⟨hy.words, h5⟩
/-- the second Put -/
theorem SmH.row {n S p g : Nat} (s : SmH w W ha hb u j n ia ib K vx vy S p g) (hj : j ≤ 100) (hn : n ≤ 1048576) (ow : Option Addr) (wc : Nat) (hv : WordsAt W (.slice ow n wc) (List.replicate n 0)) (ho : ∀ x, ow = some x → K x.block) (vr : Value) (hr : WordsAt W vr (ib.map hw)) :
    Calls Try.prog 8 #[.pointer (some ⟨hb, 0, none⟩), .agg #[.int .i64 9, .bool false, .int .i64 0, .string ByteArray.empty, .slice none 0 0, .slice ow n wc, .int .u64 0, .int .i64 0, .int .i64 0], vr] W fun e w' => ∃ q h, e = .returned (.tuple #[.int .u64 (q : Nat), .int .i64 (h : Nat)]) ∧ SmB w w' ha hb u j n ia ib K vx vy p g q h := by
  obtain ⟨Ha, Hb, t, k1, k2, k3, k4, hx, hy, h1, h2, h3, h4, h5, r⟩ := s.stay
  refine (two_row t.swap ib k2 (by omega) n hn ow wc hv ho vr hr).mono ?_
  rintro e w' ⟨hU, H', t', c1, c2, c3, h⟩
  have hx' := hx.upd hU
  have hy' := hy.upd hU
  have sm : Sm w w' ha hb u (j + 1) Ha H' ia ib K vx vy := ⟨t'.swap, k1, c1, by rw [k3, c2, k4], hx', hy', h1, h2, by omega, by omega, by omega⟩
  rcases h with ⟨f1, i', f2, f3, f4, f5⟩ | ⟨f1, f2⟩
  · refine ⟨hw i', 0, f3, ?_⟩
    rcases r with ⟨r1, r2, i, r3, r4, r5, r6⟩ | ⟨r1, _⟩
    · refine ⟨r2, .inl r2, Ha, H', sm, fun _ => ⟨i, i', r3, by omega, r4, rfl, r5, f4, by rw [r6, f5, k4]⟩⟩
    · omega
  · refine ⟨0, 40, f2, ?_⟩
    rcases r with ⟨r1, _⟩ | ⟨r1, r2, r3⟩
    · omega
    · exact ⟨r2, .inr r2, Ha, H', sm, fun e => by omega⟩
/-- both words are kept -/
theorem SmB.keep {n p q : Nat} (s : SmB w W ha hb u j n ia ib K vx vy p 0 q 0) (hj : j ≤ 100) (ty : TypeId) : ∃ vx' W1 vy' W2, (Builtin.append_ #[28, 28] ty #[vx, .slice (some ⟨W.heap.size, 0, none⟩) 1 1]).run Try.prog (W.alloc (.cells #[.int .u64 (p : Nat)] 30)) = .ok vx' W1 ∧ (Builtin.append_ #[28, 28] ty #[vy, .slice (some ⟨W1.heap.size, 0, none⟩) 1 1]).run Try.prog (W1.alloc (.cells #[.int .u64 (q : Nat)] 30)) = .ok vy' W2 ∧ ∃ Ha Hb ia' ib' K', Sm w W2 ha hb u (j + 1) Ha Hb ia' ib' K' vx' vy' := by
  obtain ⟨Ha, Hb, sm, h⟩ := s.stay
  obtain ⟨i, i', hi, hi', rfl, rfl, ka, kb, es⟩ := h rfl
  have na := sm.na
  have nb := sm.nb
  have nx : ia.length ≤ j := by
    have := ka.nod
    have hlt : ∀ a ∈ ia ++ [i], a < Ha.length := fun a ha => ka.lt ha
    have := List.Nodup.length_le_of_subset ka.nod (fun a ha' => List.mem_range.2 (hlt a ha'))
    rw [List.length_append, List.length_range] at this
    have := sm.la
    simp at *
    omega
  have ny : ib.length ≤ j := by
    have hlt : ∀ a ∈ ib ++ [i'], a < Hb.length := fun a ha => kb.lt ha
    have := List.Nodup.length_le_of_subset kb.nod (fun a ha' => List.mem_range.2 (hlt a ha'))
    rw [List.length_append, List.length_range] at this
    have := sm.lb
    simp at *
    omega
  obtain ⟨vx', W1, r1, t1, x1, u1, o1⟩ := two_append sm.q ty vx _ sm.x (hw i) (hw_small (by omega)) (by simp; omega)
  have y0 : Mine w W1 K vy (ib.map hw) := ⟨owns_on sm.y.row (fun k e => u1.block k (sm.y.row.lt k e).2 (fun e2 => sm.ne k e2 e)), sm.y.keep, sm.y.lt, sm.y.len⟩
  obtain ⟨vy', W2, r2, t2, y1, u2, o2⟩ := two_append t1 ty vy _ (y0.sub (fun k e => .inl e)) (hw i') (hw_small (by omega)) (by simp; omega)
  have ne1 : ∀ k, vx'.ownBlock = some k → ¬ vy.ownBlock = some k := by
    intro k e1 e2
    rcases o1 k e1 with e | e
    · exact sm.ne k e e2
    · have := (sm.y.row.lt k e2).2; omega
  have x2 : Mine w W2 (fun k => K k ∨ (W.heap.size ≤ k ∧ k < W1.heap.size)) vx' (ia.map hw ++ [hw i]) := ⟨owns_on x1.row (fun k e => u2.block k (x1.row.lt k e).2 (fun e2 => ne1 k e e2)), x1.keep, x1.lt, x1.len⟩
  refine ⟨vx', W1, vy', W2, r1, r2, Ha, Hb, ia ++ [i], ib ++ [i'], _, t2, ka, kb, es, ?_, ?_, ?_, sm.la, sm.lb, by simp; omega, by simp; omega⟩
  · rw [List.map_append]; exact x2.sub (fun k e => .inl e)
  · rw [List.map_append]; exact y1
  · intro k e1 e2
    rcases o2 k e2 with e | e
    · exact ne1 k e1 e
    · have := (x1.row.lt k e1).2; omega
end
end Go.Proofs.Ytaebnnkhjlidiab.W
