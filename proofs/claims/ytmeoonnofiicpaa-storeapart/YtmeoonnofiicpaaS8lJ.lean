import Derived.Test.YtmeoonnofiicpaaS8iJ
import Derived.Test.YtmeoonnofiicpaaS8cJ
import Derived.Test.YtmeoonnofiicpaaS8kJ
import Derived.Sort.CutIn
/- act: packing. -/
namespace Go.Proofs.Ytmeoonnofiicpaa.W.R5
open Go.ChangeShapes Go.WideShapes Go.RowKit Go.Shelf
set_option linter.unusedVariables false
set_option linter.unusedSimpArgs false
theorem sumT_le (T : List Tr) (m : Nat) (h : ∀ t ∈ T, t.l ≤ 8388608) (hm : T.length ≤ m) : sumT T ≤ m * 8388608 := by
  induction T generalizing m with
  | nil => exact Nat.zero_le _
  | cons e l ih =>
    obtain ⟨k, rfl⟩ : ∃ k, m = k + 1 := ⟨m - 1, by simp at hm; omega⟩
    have h1 := ih k (fun f hf => h f (List.mem_cons_of_mem _ hf)) (by simpa using hm)
    have h2 := h e (List.mem_cons_self ..)
    have h3 : up8N e.l ≤ 8388608 := by unfold up8N; omega
    have h4 : sumT (e :: l) = up8N e.l + sumT l := rfl
    omega
/-- what the last range keeps -/
structure Pq (w7 W' : World) (sb i : Nat) (T : List Tr) : Prop where
  ca : W'.heap[w7.heap.size]? = some (.cells #[.int .i64 (sumT (T.take i) : Nat)] 3 (0, 0))
  ck : W'.heap[w7.heap.size + 1]? = some (.cells #[.int .i64 (i : Nat)] 3 (0, 0))
  cc : W'.heap[w7.heap.size + 2]? = some (.cells #[(Value.pointer (some ⟨sb, 0, none⟩))] 24 (0, 0))
  low : Below w7.heap.size w7 W'
theorem Pq.on {w7 W' W'' : World} {sb i : Nat} {T : List Tr} (h : Pq w7 W' sb i T) (hU : Upd (fun k => w7.heap.size + 4 ≤ k) W' W'') : Pq w7 W'' sb i T := by
  have l2 := (Array.getElem?_eq_some_iff.1 h.cc).1
  exact ⟨(hU.block _ (by omega) (by omega)).trans h.ca, (hU.block _ (by omega) (by omega)).trans h.ck, (hU.block _ (by omega) (by omega)).trans h.cc, h.low.trans (hU.below h.low.size (fun k e => by omega))⟩
set_option maxRecDepth 100000 in
set_option maxHeartbeats 4000000 in
theorem act6_front {W : World} {sb rb B0 U N R : Nat} {S : Nat → Prop} {A : List (Option (List Nat))} {T T' : List Tr} {l : List En} {v : Value} (a : Si.A6) (hk : a.what = 6) (hS : Sd W sb A R T) (hR : Rs B0 W rb A U l v) (hRM : R ≤ 2 * U + 64) (hU : U ≤ 100000000000) (hsz : ∀ k, S k → k < W.heap.size) (hdis : ∀ k, S k → ¬ Mine5 rb l v k) (hids : T'.map Tr.i = T.map Tr.i) (hsum : sumA A ≤ U) (hpos : ∀ i t, T'[i]? = some t → 0 < t.l → t.p = sumT (T'.take i))
    (hpk : ∀ W5, Below W.heap.size W W5 → Calls Try.prog 21 #[(Value.pointer (some ⟨sb, 0, none⟩))] W5 fun e w' => e = .returned (.tuple #[]) ∧ Upd S W5 w' ∧ St w' S sb A U N ∧ Sd w' sb A (sumA A) T') : Calls Try.prog 7 #[(Value.pointer (some ⟨sb, 0, none⟩)), (Value.pointer (some ⟨rb, 0, none⟩)), (Value.agg #[.int .i64 a.what, .int .i64 a.n, .int .i64 a.id, .int .i64 a.off, .int .i64 a.wd, .int .u64 a.x])] W fun e w' => e = .returned (.bool true) ∧ Upd S W w' ∧ St w' S sb A U N := by
  obtain ⟨q, n, id, off, wd, x⟩ := a
  simp only at hk ⊢
  subst hk
  have HS := hid hS
  have HR := hid hR
  have HP := hid hpk
  have HPOS := hid hpos
  clear hpos
  have HQ := hid (And.intro hsz (And.intro hdis (And.intro hids (And.intro hRM (And.intro hU hsum)))))
  have cv := extents_c
  clear hS hR hpk hsz hdis hids hRM hU hsum
  refine (callsIn_wide (n := 9)).1 ?_
  refine callsIn_of_wp_marks Try.func7 rfl trivial ?_ rfl
  refine wpIn_wide.2 ?_
  simp only [Try.ntmps7, List.size_toArray, List.length_cons, List.length_nil, Nat.reduceAdd, Nat.reduceSub, Array.replicate_succ, Array.replicate_zero, List.push_toArray, List.append_toArray, List.nil_append, List.cons_append]
  go_upto_region 1 with fail
  simp only [Nat.add_assoc, Nat.reduceAdd]
  obtain ⟨z3, d0, d1, d2, b3⟩ := chain3 W (.cells #[(Value.pointer (some ⟨rb, 0, none⟩))] 26) (.cells #[.int .i64 6, .int .i64 n, .int .i64 id, .int .i64 off, .int .i64 wd, .int .u64 x] 33) (.cells #[.bool false] 4)
  generalize (((W.alloc (.cells #[(Value.pointer (some ⟨rb, 0, none⟩))] 26)).alloc (.cells #[.int .i64 6, .int .i64 n, .int .i64 id, .int .i64 off, .int .i64 wd, .int .u64 x] 33)).alloc (.cells #[.bool false] 4)) = W3 at *
  have x0 : W3.cell? ⟨W.heap.size + 1, 0, none⟩ = some (.int .i64 6) := cell_of_row _ _ 0 _ _ _ d1
  have cl := lies_c (HS.out.on b3) (HR.out.below b3) HQ.out.2.2.2.1 HQ.out.2.2.2.2.1
  have q0 : W3.cell? ⟨W.heap.size, 0, none⟩ = some (Value.pointer (some ⟨rb, 0, none⟩)) := cell_of_row _ _ 0 _ _ _ d0
  have D := hid (And.intro d0 (And.intro d1 (And.intro d2 (And.intro b3 z3))))
  clear d0 d1 d2 b3
  go_upto_region 20 with (go_at_call 8; (with_reducible refine cl.mono ?_); rintro e w4 ⟨v1, rfl, b4, row4⟩; clear cl; (obtain ⟨o1, c1, hv1⟩ := slice_of (owns_base row4 (b' := 0) (fun _ _ => Nat.zero_le _))); subst hv1)
  obtain ⟨d0, d1, d2, b3, z3'⟩ := D.out
  have z4 := b4.size
  have b45 : Below w4.heap.size w4 (w4.alloc (.cells #[.slice o1 T.length c1] 34)) := (Below.refl _ _).alloc (Nat.le_refl _) _
  have e1 := World.alloc_heap_new w4 (.cells #[.slice o1 T.length c1] 34)
  have bW5 : Below W.heap.size W (w4.alloc (.cells #[.slice o1 T.length c1] 34)) := (b3.trans (b4.mono b3.size)).trans (b45.mono (by omega))
  have b35 : Below W3.heap.size W3 (w4.alloc (.cells #[.slice o1 T.length c1] 34)) := b4.trans (b45.mono b4.size)
  have row5 := owns_on row4 (fun k e => b45.block k (row4.lt k e).2)
  have cp := HP.out _ bW5
  have z5 : (w4.alloc (.cells #[.slice o1 T.length c1] 34)).heap.size = w4.heap.size + 1 := World.size_alloc ..
  have r5 := HR.out.below bW5
  have F5 := hid (And.intro d0 (And.intro d2 (And.intro e1 (And.intro bW5 (And.intro b35 (And.intro row5 (And.intro z5 (And.intro r5 (And.intro z3' z4)))))))))
  clear d0 d1 d2 b3 z4 b45 e1 bW5 b35 row5 z5 r5 b4 row4 D q0 x0 z3 z3' HP
  generalize w4.alloc (.cells #[.slice o1 T.length c1] 34) = w5 at *
  generalize w4.heap.size = p1 at *
  go_upto_region 21 with (go_at_call 21; (with_reducible refine cp.mono ?_); rintro e w6 ⟨rfl, uP, st6, sd6⟩; clear cp)
  obtain ⟨d0, d2, e1, bW5, b35, row5, z5, r5, z3, z4⟩ := F5.out
  obtain ⟨hsz, hdis, hids, hRM, hU, hsum⟩ := HQ.out
  have kp : ∀ k, W.heap.size ≤ k → k < w5.heap.size → w6.heap[k]? = w5.heap[k]? := fun k h1 h2 => uP.block k h2 (fun e => by have := hsz k e; omega)
  have d05 := (b35.block W.heap.size (by omega)).trans d0
  have d25 := (b35.block (W.heap.size + 2) (by omega)).trans d2
  have d06 := (kp _ (by omega) (by omega)).trans d05
  have d26 := (kp _ (by omega) (by omega)).trans d25
  have e16 := (kp p1 (by omega) (by omega)).trans e1
  have row6 := owns_on row5 (fun k e => kp k (by have := (row5.lt k e).1; omega) (row5.lt k e).2)
  have r6 := r5.on (W' := w6) (fun k hk => uP.block k (r5.blk_lt k hk).2 (fun e => hdis k e hk))
  have cl := lies_c sd6 r6 (by omega) hU
  have q0 : w6.cell? ⟨W.heap.size, 0, none⟩ = some (Value.pointer (some ⟨rb, 0, none⟩)) := cell_of_row _ _ 0 _ _ _ d06
  have uW6 : Upd S W w6 := (Upd.of_below bW5).trans' uP
  have z6 := uP.size
  have F6 := hid (And.intro d26 (And.intro e16 (And.intro row6 (And.intro st6 (And.intro sd6 (And.intro uW6 (And.intro r6 (And.intro z6 (And.intro z5 (And.intro z4 z3))))))))))
  have HL : Hid (T'.length = T.length) := by
    show T'.length = T.length
    have := congrArg List.length hids
    simpa using this
  clear d0 d2 e1 bW5 b35 row5 z5 r5 kp d05 d25 d06 d26 e16 row6 r6 uW6 uP st6 sd6 z6 hsz hdis hids hRM hU hsum F5 z3 z4
  go_upto_region 22 with (go_at_call 8; (with_reducible refine cl.mono ?_); rintro e w7 ⟨v2, rfl, b7, row7⟩; clear cl; (obtain ⟨o2, c2, hv2⟩ := slice_of (owns_base row7 (b' := 0) (fun _ _ => Nat.zero_le _))); subst hv2)
  rw [HL.out]
  obtain ⟨d26, e16, row6, st6, sd6, uW6, r6, z6, z5, z4, z3⟩ := F6.out
  have q1 : w7.cell? ⟨p1, 0, none⟩ = some (.slice o1 T.length c1) := cell_of_row _ _ 0 _ _ _ ((b7.block p1 (by omega)).trans e16)
  have cs := sd6.span w7 b7
  have cu := sd6.used w7 b7
  have B7 := hid b7
  clear d26 e16 row6 st6 sd6 uW6 r6 z6 z5 z4 z3 b7 row7 q0
  go_wp2_with (first | (go_at_call 22; (with_reducible refine cs.mono ?_); rintro e w8 ⟨rfl, hw8⟩; (have hw' := hw8.symm); subst hw'; clear hw8) | (go_at_call 23; (with_reducible refine cu.mono ?_); rintro e w8 ⟨rfl, hw8⟩; (have hw' := hw8.symm); subst hw'; clear hw8) | (go_at_call 24; (with_reducible refine (cv _ _).mono ?_); rintro e w8 ⟨rfl, hw8⟩; (have hw' := hw8.symm); subst hw'; clear hw8))
  obtain ⟨zc, f0, f1, f2, bC⟩ := chain3 w7 (.cells #[.int .i64 0] 3) (.cells #[.int .i64 0] 3) (.cells #[(Value.pointer (some ⟨sb, 0, none⟩))] 24)
  have pq0 : Pq w7 (((w7.alloc (.cells #[.int .i64 0] 3)).alloc (.cells #[.int .i64 0] 3)).alloc (.cells #[(Value.pointer (some ⟨sb, 0, none⟩))] 24)) sb 0 T' := ⟨f0, f1, f2, bC⟩
  have PQ0 := hid pq0
  have ZC := hid zc
  clear zc f0 f1 f2 bC pq0 cs cu cv q1
  generalize (((w7.alloc (.cells #[.int .i64 0] 3)).alloc (.cells #[.int .i64 0] 3)).alloc (.cells #[(Value.pointer (some ⟨sb, 0, none⟩))] 24)) = W9 at *
  have TEL : Hid (∀ W', Below w7.heap.size w7 W' → Tells W' sb T') := by
    show ∀ W', _
    intro W' hB
    obtain ⟨d26, e16, row6, st6, sd6, uW6, r6, z6, z5, z4, z3⟩ := F6.out
    exact sd6.tell W' (B7.out.trans (hB.mono B7.out.size))
  refine ext_lawA (sb := sb) (q1 := 25) T' rfl (fun i D W' => (∀ k, ¬ D k) ∧ Pq w7 W' sb i T') (fun _ _ => False) ?hL ?hI ?hIx ?hLx (fun _ => False) ⟨fun k e => e, PQ0.out⟩ ?asg ?body ?done ?stop
  case hL =>
    rintro i D W' ⟨h1, h2⟩
    exact ⟨⟨cell_of_row _ _ 0 _ _ _ h2.cc, TEL.out W' h2.low⟩, fun k e => absurd e (h1 k)⟩
  case hI =>
    rintro i D Wa Wb ⟨h1, h2⟩ hu
    exact ⟨h1, h2.on (hu.mono (fun k e => by rw [ZC.out] at e; omega))⟩
  case hIx => intro c Wa Wb hF; exact hF.elim
  case hLx => intro c Wa hF; exact hF.elim
  case asg =>
    intro L i W' K hK
    simp only [boxAct, Tr.agg, Tr.cells, List.setIfInBounds_toArray, List.set_cons_succ, List.set_cons_zero] at hK ⊢
    gi_wp2_with (simp only [Oper.semAt]; go_simp)
    exact hK
  case body =>
    rintro L i hi D W' o hLe ⟨h1, h2⟩ hs
    obtain ⟨t, ht⟩ : ∃ t, T'[i]? = some t := ⟨_, List.getElem?_eq_getElem hi⟩
    have htd : T'.getD i noTr = t := by rw [List.getD_eq_getElem?_getD, ht]; rfl
    rw [htd]
    rw [ZC.out] at hs hLe
    have bA : Below W'.heap.size W' (W'.alloc (.cells t.cells.toArray 60)) := (Below.refl _ _).alloc (Nat.le_refl _) _
    have uP : Upd (fun k => k = L) (W'.alloc (.cells t.cells.toArray 60)) ((W'.alloc (.cells t.cells.toArray 60)).putObj L o) := upd_put (S := fun k => k = L) rfl o
    have hV : Upd (fun k => k = L) W' ((W'.alloc (.cells t.cells.toArray 60)).putObj L o) := (Upd.of_below bA).trans' uP
    have pq := h2.on (hV.mono (fun k e => by omega))
    have hx : ((W'.alloc (.cells t.cells.toArray 60)).putObj L o).heap[W'.heap.size]? = some (.cells t.cells.toArray 60 (0, 0)) := (World.putObj_heap_other (by omega)).trans (World.alloc_heap_new W' _)
    have hzV : ((W'.alloc (.cells t.cells.toArray 60)).putObj L o).heap.size = W'.heap.size + 1 := by simp
    simp only [boxAct, Tr.agg, List.setIfInBounds_toArray, List.set_cons_succ, List.set_cons_zero]
    generalize ((W'.alloc (.cells t.cells.toArray 60)).putObj L o) = V at *
    obtain ⟨xb, hxb⟩ : ∃ xb, W'.heap.size = xb := ⟨_, rfl⟩
    rw [hxb] at hs hx hzV ⊢
    have hTl : i < T.length := by rw [← HL.out]; exact hi
    obtain ⟨u, hu⟩ : ∃ u, T[i]? = some u := ⟨_, List.getElem?_eq_getElem hTl⟩
    obtain ⟨hsz, hdis, hids, hRM, hU, hsum⟩ := HQ.out
    have hui : u.i = t.i := by
      have e1 := congrArg (fun l => l[i]?) hids
      simp only [List.getElem?_map, ht, hu, Option.map_some, Option.some.injEq] at e1
      exact e1.symm
    obtain ⟨d26, e16, row6, st6, sd6, uW6, r6, z6, z5, z4, z3⟩ := F6.out
    obtain ⟨g, c', hv, hTc⟩ := own_slice (owns_base row6 (b' := 0) (fun _ _ => Nat.zero_le _)) (by omega)
    injection hv with hv1 hv2 hv3
    subst hv1
    clear hv2
    have hg := row6.lt g rfl
    have cg : w6.cell? ⟨g, i, none⟩ = some (.int .i64 (t.i : Nat)) := by
      rw [row6.cellAt i (by omega)]
      simp [idsT, hu, hui]
    have bV : Below w6.heap.size w6 V := B7.out.trans (pq.low.mono B7.out.size)
    have y7 : V.cell? ⟨g, i, none⟩ = some (.int .i64 (t.i : Nat)) := (World.cell?_of_block (bV.block g hg.2)).trans cg
    have y6 : V.cell? ⟨p1, 0, none⟩ = some (.slice (some ⟨g, 0, none⟩) T.length c1) := cell_of_row _ _ 0 _ _ _ ((bV.block p1 (by omega)).trans e16)
    have y1 : V.cell? ⟨xb, 0, none⟩ = some (.int .i64 (t.i : Nat)) := cell_of_row _ _ 0 _ _ _ hx
    have y2 : V.cell? ⟨xb, 1, none⟩ = some (.int .i64 (t.p : Nat)) := cell_of_row _ _ 1 _ _ _ hx
    have y3 : V.cell? ⟨xb, 2, none⟩ = some (.int .i64 (t.l : Nat)) := cell_of_row _ _ 2 _ _ _ hx
    have y4 : V.cell? ⟨w7.heap.size, 0, none⟩ = some (.int .i64 (sumT (T'.take i) : Nat)) := cell_of_row _ _ 0 _ _ _ pq.ca
    have y5 : V.cell? ⟨w7.heap.size + 1, 0, none⟩ = some (.int .i64 (i : Nat)) := cell_of_row _ _ 0 _ _ _ pq.ck
    have hlens : ∀ q ∈ T', q.l ≤ 8388608 := by
      intro q hq
      obtain ⟨xs, h3, h4⟩ := sd6.lie.has q hq
      rw [← h4]
      exact (HR.out.low' h3).2
    have hLt := hlens t (List.mem_of_getElem? ht)
    have hTn : T'.length ≤ 1000 := by
      have h3 := sd6.lie.cnt
      have h4 : cntA A ≤ A.length := List.length_filter_le _ _
      have := HR.out.num
      omega
    have hsb := sumT_le (T'.take i) 1000 (fun q hq => hlens q (List.mem_of_mem_take hq)) (by rw [List.length_take]; omega)
    have hst := sumT_take T' i t ht
    have hps := HPOS.out i t ht
    have l2 := (Array.getElem?_eq_some_iff.1 pq.cc).1
    have uA : Upd (fun k => k = w7.heap.size ∨ k = w7.heap.size + 1) V.drew ((V.drew.setCell ⟨w7.heap.size, 0, none⟩ (.int .i64 ((sumT (T'.take i) + up8N t.l : Nat) : Int))).setCell ⟨w7.heap.size + 1, 0, none⟩ (.int .i64 ((i : Int) + 1))) := (((Upd.refl (fun k => k = w7.heap.size ∨ k = w7.heap.size + 1) V.drew).setCell (p := ⟨w7.heap.size, 0, none⟩) (.inl (.inl rfl)) _).setCell (p := ⟨w7.heap.size + 1, 0, none⟩) (.inl (.inr rfl)) _)
    have uA1 : Upd (fun k => k = w7.heap.size) V.drew (V.drew.setCell ⟨w7.heap.size, 0, none⟩ (.int .i64 ((sumT (T'.take i) + up8N t.l : Nat) : Int))) := (Upd.refl (fun k => k = w7.heap.size) V.drew).setCell (p := ⟨w7.heap.size, 0, none⟩) (.inl rfl) _
    have g0 := heap_set (c := [_]) (show V.drew.heap[w7.heap.size]? = _ from pq.ca) 0 (.int .i64 ((sumT (T'.take i) + up8N t.l : Nat) : Int))
    have g1 := (uA1.block (w7.heap.size + 1) (by show _ < V.heap.size; omega) (by omega)).trans (show V.drew.heap[w7.heap.size + 1]? = _ from pq.ck)
    have g1' := heap_set (c := [_]) g1 0 (.int .i64 ((i : Int) + 1))
    have uA2 : Upd (fun k => k = w7.heap.size + 1) (V.drew.setCell ⟨w7.heap.size, 0, none⟩ (.int .i64 ((sumT (T'.take i) + up8N t.l : Nat) : Int))) ((V.drew.setCell ⟨w7.heap.size, 0, none⟩ (.int .i64 ((sumT (T'.take i) + up8N t.l : Nat) : Int))).setCell ⟨w7.heap.size + 1, 0, none⟩ (.int .i64 ((i : Int) + 1))) := (Upd.refl (fun k => k = w7.heap.size + 1) _).setCell (p := ⟨w7.heap.size + 1, 0, none⟩) (.inl rfl) _
    have g0' := (uA2.block w7.heap.size (Array.getElem?_eq_some_iff.1 g0).1 (by omega)).trans g0
    have pqd := pq.on (W'' := V.drew) (Upd.of_below ⟨rfl, rfl, rfl, Nat.le_refl _, fun _ _ => rfl⟩)
    have pqN : Pq w7 ((V.drew.setCell ⟨w7.heap.size, 0, none⟩ (.int .i64 ((sumT (T'.take i) + up8N t.l : Nat) : Int))).setCell ⟨w7.heap.size + 1, 0, none⟩ (.int .i64 ((i : Int) + 1))) sb (i + 1) T' := by
      refine ⟨by rw [hst]; exact g0', g1', (uA.block _ (by show _ < V.heap.size; omega) (by omega)).trans pqd.cc, pqd.low.trans (uA.below pqd.low.size (fun k e => by omega))⟩
    have FIN : Hid (rndWayE L W9.heap.size D V (fun W' => ∃ D' : Nat → Prop, ((∀ k, ¬ D' k) ∧ Pq w7 W' sb (i + 1) T') ∧ ∀ k, D' k → D k ∨ xb ≤ k) (fun _ _ => False) Exit.normal { tmps := #[], defers := [] } ((V.drew.setCell ⟨w7.heap.size, 0, none⟩ (.int .i64 ((sumT (T'.take i) + up8N t.l : Nat) : Int))).setCell ⟨w7.heap.size + 1, 0, none⟩ (.int .i64 ((i : Int) + 1)))) := by
      show _ ∧ _
      refine ⟨⟨uA.block L (by show _ < V.heap.size; omega) (by omega), uA.block _ (by show _ < V.heap.size; rw [ZC.out]; omega) (by rw [ZC.out]; omega)⟩, fun k e1 e2 e3 => uA.block k e2 (by rw [ZC.out] at e1; omega), D, ⟨h1, pqN⟩, fun k e => .inl e⟩
    have f4 : V.drew.frozen? ⟨w7.heap.size, 0, none⟩ = false := by simp [World.frozen?, pqd.ca]
    have f5 : (V.drew.setCell ⟨w7.heap.size, 0, none⟩ (.int .i64 ((sumT (T'.take i) + up8N t.l : Nat) : Int))).cell? ⟨w7.heap.size + 1, 0, none⟩ = some (.int .i64 (i : Nat)) := cell_of_row _ _ 0 _ _ _ g1
    have f6 : (V.drew.setCell ⟨w7.heap.size, 0, none⟩ (.int .i64 ((sumT (T'.take i) + up8N t.l : Nat) : Int))).frozen? ⟨w7.heap.size + 1, 0, none⟩ = false := (World.frozen?_of_block (uA1.block (w7.heap.size + 1) (by show _ < V.heap.size; omega) (by omega))).trans (by simp [World.frozen?, pqd.ck])
    have wk : IntKind.i64.wrap ((i : Int) + 1) = (i : Int) + 1 := by rw [IntKind.wrap_i64]; omega
    have k0 : (0 : Int) ≤ i := Int.natCast_nonneg _
    have k1 : (i : Int) < (T.length : Nat) := by omega
    have hs9 : sumT (T'.take i) ≤ 8388608000 := by omega
    clear bA uP hV hx hzV d26 e16 row6 st6 sd6 uW6 r6 z6 z5 z4 z3 hg cg bV hlens hTn hsb hst uA uA1 uA2 g0 g1 g1' g0' pqd pqN hsz hdis hids hRM hU hsum hu hui h1 h2 pq l2 hs hLe hTl hi ht htd hTc hv3 PQ0 TEL
    generalize w7.heap.size = pa at *
    obtain ⟨Lt, hLt0⟩ : ∃ Lt, t.l = Lt := ⟨_, rfl⟩
    rw [hLt0] at y3 hLt FIN f5 f6 hps
    have a1 : IntKind.i64.wrap ((Lt : Int) + 7) = (Lt : Int) + 7 := by rw [IntKind.wrap_i64]; omega
    have a2 : Int.tdiv ((Lt : Int) + 7) 8 = ((Lt + 7) / 8 : Nat) := by rw [Int.tdiv_eq_ediv_of_nonneg (by omega)]; omega
    have a3 : IntKind.i64.wrap (((Lt + 7) / 8 : Nat) : Int) = ((Lt + 7) / 8 : Nat) := by rw [IntKind.wrap_i64]; omega
    have a4 : IntKind.i64.wrap ((((Lt + 7) / 8 : Nat) : Int) * 8) = (up8N Lt : Nat) := by rw [IntKind.wrap_i64]; unfold up8N; omega
    have a5 : IntKind.i64.wrap (((sumT (T'.take i) : Nat) : Int) + (up8N Lt : Nat)) = ((sumT (T'.take i) + up8N Lt : Nat) : Int) := by rw [IntKind.wrap_i64]; have : up8N Lt ≤ 8388608 := by { unfold up8N; omega }; omega
    have HPS := hid hps
    clear hps hLt0 hLt hs9
    generalize ((sumT (T'.take i) + up8N Lt : Nat) : Int) = S1 at *
    obtain ⟨s0, hs0⟩ : ∃ s0 : Int, ((sumT (T'.take i) : Nat) : Int) = s0 := ⟨_, rfl⟩
    have HS0 := hid hs0
    rw [hs0] at y4 a5
    clear hs0
    generalize ((t.i : Nat) : Int) = I0 at *
    generalize ((((Lt + 7) / 8 : Nat)) : Int) = q8 at *
    generalize T.length = m at *
    by_cases hlp : 0 < Lt
    · have e9 : ((t.p : Nat) : Int) = s0 := by rw [← HS0.out]; exact congrArg _ (HPS.out hlp)
      rw [e9] at y2
      clear e9 HPS HS0
      have a7 : (Lt : Int) > 0 := by omega
      have hS : V.drew.cell? ⟨xb, 0, none⟩ = some (.int .i64 I0) ∧ V.drew.cell? ⟨xb, 1, none⟩ = some (.int .i64 s0) ∧ V.drew.cell? ⟨xb, 2, none⟩ = some (.int .i64 (Lt : Nat)) ∧ V.drew.cell? ⟨pa, 0, none⟩ = some (.int .i64 s0) ∧ V.drew.cell? ⟨pa + 1, 0, none⟩ = some (.int .i64 (i : Nat)) ∧ V.drew.cell? ⟨p1, 0, none⟩ = some (.slice (some ⟨g, 0, none⟩) m c1) ∧ V.drew.cell? ⟨g, i, none⟩ = some (.int .i64 I0) := ⟨y1, y2, y3, y4, y5, y6, y7⟩
      clear y1 y2 y3 y4 y5 y6 y7
      gi_wp2
      refine round_anyS (S := fun w' => w'.cell? ⟨xb, 0, none⟩ = some (.int .i64 I0) ∧ w'.cell? ⟨xb, 1, none⟩ = some (.int .i64 s0) ∧ w'.cell? ⟨xb, 2, none⟩ = some (.int .i64 (Lt : Nat)) ∧ w'.cell? ⟨pa, 0, none⟩ = some (.int .i64 s0) ∧ w'.cell? ⟨pa + 1, 0, none⟩ = some (.int .i64 (i : Nat)) ∧ w'.cell? ⟨p1, 0, none⟩ = some (.slice (some ⟨g, 0, none⟩) m c1) ∧ w'.cell? ⟨g, i, none⟩ = some (.int .i64 I0)) (by kernel_rfl) (by kernel_rfl) ?_
      (refine anyS_take (i := 0) (v := ?_) rfl (by kernel_rfl) (by kernel_rfl) (by kernel_rfl) (fun _ _ _ h => h) (Or.inl ⟨by kernel_rfl, ?_⟩) hS ?_); rotate_left; (focus (intro w' hSw; obtain ⟨q1, q2, q3, q4, q5, q6, q7⟩ := hSw; go_simp; (try with_reducible rfl))); (try simp only [Act.put, List.getElem_toArray, List.getElem_cons_zero, List.getElem_cons_succ, List.setIfInBounds_toArray, List.set_cons_zero, List.set_cons_succ])
      (refine anyS_take (i := 1) (v := ?_) rfl (by kernel_rfl) (by kernel_rfl) (by kernel_rfl) (fun _ _ _ h => h) (Or.inl ⟨by kernel_rfl, ?_⟩) hS ?_); rotate_left; (focus (intro w' hSw; obtain ⟨q1, q2, q3, q4, q5, q6, q7⟩ := hSw; go_simp; (try with_reducible rfl))); (try simp only [Act.put, List.getElem_toArray, List.getElem_cons_zero, List.getElem_cons_succ, List.setIfInBounds_toArray, List.set_cons_zero, List.set_cons_succ])
      (refine anyS_take (i := 2) (v := ?_) rfl (by kernel_rfl) (by kernel_rfl) (by kernel_rfl) (fun _ _ _ h => h) (Or.inl ⟨by kernel_rfl, ?_⟩) hS ?_); rotate_left; (focus (intro w' hSw; obtain ⟨q1, q2, q3, q4, q5, q6, q7⟩ := hSw; go_simp; (try with_reducible rfl))); (try simp only [Act.put, List.getElem_toArray, List.getElem_cons_zero, List.getElem_cons_succ, List.setIfInBounds_toArray, List.set_cons_zero, List.set_cons_succ])
      (refine anyS_take (i := 3) (v := ?_) rfl (by kernel_rfl) (by kernel_rfl) (by kernel_rfl) (fun _ _ _ h => h) (Or.inl ⟨by kernel_rfl, ?_⟩) hS ?_); rotate_left; (focus (intro w' hSw; obtain ⟨q1, q2, q3, q4, q5, q6, q7⟩ := hSw; go_simp; (try with_reducible rfl))); (try simp only [Act.put, List.getElem_toArray, List.getElem_cons_zero, List.getElem_cons_succ, List.setIfInBounds_toArray, List.set_cons_zero, List.set_cons_succ])
      (refine anyS_take (i := 4) (v := ?_) rfl (by kernel_rfl) (by kernel_rfl) (by kernel_rfl) (fun _ _ _ h => h) (Or.inl ⟨by kernel_rfl, ?_⟩) hS ?_); rotate_left; (focus (intro w' hSw; obtain ⟨q1, q2, q3, q4, q5, q6, q7⟩ := hSw; go_simp; (try with_reducible rfl))); (try simp only [Act.put, List.getElem_toArray, List.getElem_cons_zero, List.getElem_cons_succ, List.setIfInBounds_toArray, List.set_cons_zero, List.set_cons_succ])
      (refine anyS_take (i := 5) (v := ?_) rfl (by kernel_rfl) (by kernel_rfl) (by kernel_rfl) (fun _ _ _ h => h) (Or.inl ⟨by kernel_rfl, ?_⟩) hS ?_); rotate_left; (focus (intro w' hSw; obtain ⟨q1, q2, q3, q4, q5, q6, q7⟩ := hSw; go_simp; (try with_reducible rfl))); (try simp only [Act.put, List.getElem_toArray, List.getElem_cons_zero, List.getElem_cons_succ, List.setIfInBounds_toArray, List.set_cons_zero, List.set_cons_succ])
      (refine anyS_take (i := 6) (v := ?_) rfl (by kernel_rfl) (by kernel_rfl) (by kernel_rfl) (fun _ _ _ h => h) (Or.inl ⟨by kernel_rfl, ?_⟩) hS ?_); rotate_left; (focus (intro w' hSw; obtain ⟨q1, q2, q3, q4, q5, q6, q7⟩ := hSw; go_simp; (try with_reducible rfl))); (try simp only [Act.put, List.getElem_toArray, List.getElem_cons_zero, List.getElem_cons_succ, List.setIfInBounds_toArray, List.set_cons_zero, List.set_cons_succ])
      (refine anyS_take (i := 7) (v := ?_) rfl (by kernel_rfl) (by kernel_rfl) (by kernel_rfl) (fun _ _ _ h => h) (Or.inl ⟨by kernel_rfl, ?_⟩) hS ?_); rotate_left; (focus (intro w' hSw; obtain ⟨q1, q2, q3, q4, q5, q6, q7⟩ := hSw; go_simp; (try with_reducible rfl))); (try simp only [Act.put, List.getElem_toArray, List.getElem_cons_zero, List.getElem_cons_succ, List.setIfInBounds_toArray, List.set_cons_zero, List.set_cons_succ])
      (refine anyS_take (i := 8) (v := ?_) rfl (by kernel_rfl) (by kernel_rfl) (by kernel_rfl) (fun _ _ _ h => h) (Or.inl ⟨by kernel_rfl, ?_⟩) hS ?_); rotate_left; (focus (intro w' hSw; obtain ⟨q1, q2, q3, q4, q5, q6, q7⟩ := hSw; go_simp; (try with_reducible rfl))); (try simp only [Act.put, List.getElem_toArray, List.getElem_cons_zero, List.getElem_cons_succ, List.setIfInBounds_toArray, List.set_cons_zero, List.set_cons_succ])
      (refine anyS_take (i := 9) (v := ?_) rfl (by kernel_rfl) (by kernel_rfl) (by kernel_rfl) (fun _ _ _ h => h) (Or.inl ⟨by kernel_rfl, ?_⟩) hS ?_); rotate_left; (focus (intro w' hSw; obtain ⟨q1, q2, q3, q4, q5, q6, q7⟩ := hSw; go_simp; (try with_reducible rfl))); (try simp only [Act.put, List.getElem_toArray, List.getElem_cons_zero, List.getElem_cons_succ, List.setIfInBounds_toArray, List.set_cons_zero, List.set_cons_succ])
      (refine anyS_take (i := 10) (v := ?_) rfl (by kernel_rfl) (by kernel_rfl) (by kernel_rfl) (fun _ _ _ h => h) (Or.inl ⟨by kernel_rfl, ?_⟩) hS ?_); rotate_left; (focus (intro w' hSw; obtain ⟨q1, q2, q3, q4, q5, q6, q7⟩ := hSw; go_simp; (try with_reducible rfl))); (try simp only [Act.put, List.getElem_toArray, List.getElem_cons_zero, List.getElem_cons_succ, List.setIfInBounds_toArray, List.set_cons_zero, List.set_cons_succ])
      (refine anyS_take (i := 11) (v := ?_) rfl (by kernel_rfl) (by kernel_rfl) (by kernel_rfl) (fun _ _ _ h => h) (Or.inl ⟨by kernel_rfl, ?_⟩) hS ?_); rotate_left; (focus (intro w' hSw; obtain ⟨q1, q2, q3, q4, q5, q6, q7⟩ := hSw; go_simp; (try with_reducible rfl))); (try simp only [Act.put, List.getElem_toArray, List.getElem_cons_zero, List.getElem_cons_succ, List.setIfInBounds_toArray, List.set_cons_zero, List.set_cons_succ])
      (refine anyS_take (i := 12) (v := ?_) rfl (by kernel_rfl) (by kernel_rfl) (by kernel_rfl) (fun _ _ _ h => h) (Or.inl ⟨by kernel_rfl, ?_⟩) hS ?_); rotate_left; (focus (intro w' hSw; obtain ⟨q1, q2, q3, q4, q5, q6, q7⟩ := hSw; go_simp; (try with_reducible rfl))); (try simp only [Act.put, List.getElem_toArray, List.getElem_cons_zero, List.getElem_cons_succ, List.setIfInBounds_toArray, List.set_cons_zero, List.set_cons_succ])
      (refine anyS_take (i := 13) (v := ?_) rfl (by kernel_rfl) (by kernel_rfl) (by kernel_rfl) (fun _ _ _ h => h) (Or.inl ⟨by kernel_rfl, ?_⟩) hS ?_); rotate_left; (focus (intro w' hSw; obtain ⟨q1, q2, q3, q4, q5, q6, q7⟩ := hSw; go_simp; (try with_reducible rfl))); (try simp only [Act.put, List.getElem_toArray, List.getElem_cons_zero, List.getElem_cons_succ, List.setIfInBounds_toArray, List.set_cons_zero, List.set_cons_succ])
      (refine anyS_take (i := 14) (v := ?_) rfl (by kernel_rfl) (by kernel_rfl) (by kernel_rfl) (fun _ _ _ h => h) (Or.inl ⟨by kernel_rfl, ?_⟩) hS ?_); rotate_left; (focus (intro w' hSw; obtain ⟨q1, q2, q3, q4, q5, q6, q7⟩ := hSw; go_simp; (try with_reducible rfl))); (try simp only [Act.put, List.getElem_toArray, List.getElem_cons_zero, List.getElem_cons_succ, List.setIfInBounds_toArray, List.set_cons_zero, List.set_cons_succ])
      (refine anyS_take (i := 15) (v := ?_) rfl (by kernel_rfl) (by kernel_rfl) (by kernel_rfl) (fun _ _ _ h => h) (Or.inl ⟨by kernel_rfl, ?_⟩) hS ?_); rotate_left; (focus (intro w' hSw; obtain ⟨q1, q2, q3, q4, q5, q6, q7⟩ := hSw; go_simp; (try with_reducible rfl))); (try simp only [Act.put, List.getElem_toArray, List.getElem_cons_zero, List.getElem_cons_succ, List.setIfInBounds_toArray, List.set_cons_zero, List.set_cons_succ])
      (refine anyS_take (i := 16) (v := ?_) rfl (by kernel_rfl) (by kernel_rfl) (by kernel_rfl) (fun _ _ _ h => h) (Or.inl ⟨by kernel_rfl, ?_⟩) hS ?_); rotate_left; (focus (intro w' hSw; obtain ⟨q1, q2, q3, q4, q5, q6, q7⟩ := hSw; go_simp; (try with_reducible rfl))); (try simp only [Act.put, List.getElem_toArray, List.getElem_cons_zero, List.getElem_cons_succ, List.setIfInBounds_toArray, List.set_cons_zero, List.set_cons_succ])
      (refine anyS_take (i := 17) (v := undef) rfl (by kernel_rfl) (by kernel_rfl) (by kernel_rfl) (fun _ _ _ h => h) (Or.inr ⟨by kernel_rfl, rfl⟩) hS ?_); (try simp only [Act.put, List.getElem_toArray, List.getElem_cons_zero, List.getElem_cons_succ, List.setIfInBounds_toArray, List.set_cons_zero, List.set_cons_succ])
      (refine anyS_take (i := 18) (v := undef) rfl (by kernel_rfl) (by kernel_rfl) (by kernel_rfl) (fun _ _ _ h => h) (Or.inr ⟨by kernel_rfl, rfl⟩) hS ?_); (try simp only [Act.put, List.getElem_toArray, List.getElem_cons_zero, List.getElem_cons_succ, List.setIfInBounds_toArray, List.set_cons_zero, List.set_cons_succ])
      (refine anyS_take (i := 19) (v := undef) rfl (by kernel_rfl) (by kernel_rfl) (by kernel_rfl) (fun _ _ _ h => h) (Or.inr ⟨by kernel_rfl, rfl⟩) hS ?_); (try simp only [Act.put, List.getElem_toArray, List.getElem_cons_zero, List.getElem_cons_succ, List.setIfInBounds_toArray, List.set_cons_zero, List.set_cons_succ])
      (refine anyS_take (i := 20) (v := undef) rfl (by kernel_rfl) (by kernel_rfl) (by kernel_rfl) (fun _ _ _ h => h) (Or.inr ⟨by kernel_rfl, rfl⟩) hS ?_); (try simp only [Act.put, List.getElem_toArray, List.getElem_cons_zero, List.getElem_cons_succ, List.setIfInBounds_toArray, List.set_cons_zero, List.set_cons_succ])
      (refine anyS_take (i := 21) (v := undef) rfl (by kernel_rfl) (by kernel_rfl) (by kernel_rfl) (fun _ _ _ h => h) (Or.inr ⟨by kernel_rfl, rfl⟩) hS ?_); (try simp only [Act.put, List.getElem_toArray, List.getElem_cons_zero, List.getElem_cons_succ, List.setIfInBounds_toArray, List.set_cons_zero, List.set_cons_succ])
      (refine anyS_take (i := 22) (v := undef) rfl (by kernel_rfl) (by kernel_rfl) (by kernel_rfl) (fun _ _ _ h => h) (Or.inr ⟨by kernel_rfl, rfl⟩) hS ?_); (try simp only [Act.put, List.getElem_toArray, List.getElem_cons_zero, List.getElem_cons_succ, List.setIfInBounds_toArray, List.set_cons_zero, List.set_cons_succ])
      (refine anyS_take (i := 23) (v := undef) rfl (by kernel_rfl) (by kernel_rfl) (by kernel_rfl) (fun _ _ _ h => h) (Or.inr ⟨by kernel_rfl, rfl⟩) hS ?_); (try simp only [Act.put, List.getElem_toArray, List.getElem_cons_zero, List.getElem_cons_succ, List.setIfInBounds_toArray, List.set_cons_zero, List.set_cons_succ])
      (refine anyS_take (i := 24) (v := ?_) rfl (by kernel_rfl) (by kernel_rfl) (by kernel_rfl) (fun _ _ _ h => h) (Or.inl ⟨by kernel_rfl, ?_⟩) hS ?_); rotate_left; (focus (intro w' hSw; obtain ⟨q1, q2, q3, q4, q5, q6, q7⟩ := hSw; go_simp; (try with_reducible rfl))); (try simp only [Act.put, List.getElem_toArray, List.getElem_cons_zero, List.getElem_cons_succ, List.setIfInBounds_toArray, List.set_cons_zero, List.set_cons_succ])
      (refine anyS_take (i := 25) (v := ?_) rfl (by kernel_rfl) (by kernel_rfl) (by kernel_rfl) (fun _ _ _ h => h) (Or.inl ⟨by kernel_rfl, ?_⟩) hS ?_); rotate_left; (focus (intro w' hSw; obtain ⟨q1, q2, q3, q4, q5, q6, q7⟩ := hSw; go_simp; (try with_reducible rfl))); (try simp only [Act.put, List.getElem_toArray, List.getElem_cons_zero, List.getElem_cons_succ, List.setIfInBounds_toArray, List.set_cons_zero, List.set_cons_succ])
      (refine anyS_take (i := 26) (v := ?_) rfl (by kernel_rfl) (by kernel_rfl) (by kernel_rfl) (fun _ _ _ h => h) (Or.inl ⟨by kernel_rfl, ?_⟩) hS ?_); rotate_left; (focus (intro w' hSw; obtain ⟨q1, q2, q3, q4, q5, q6, q7⟩ := hSw; go_simp; (try with_reducible rfl))); (try simp only [Act.put, List.getElem_toArray, List.getElem_cons_zero, List.getElem_cons_succ, List.setIfInBounds_toArray, List.set_cons_zero, List.set_cons_succ])
      refine anyS_done (by kernel_rfl) ?_ _
      generalize V.drew = Vd at *
      obtain ⟨y1, y2, y3, y4, y5, y6, y7⟩ := hS
      gi_wp2_with (simp only [Oper.semAt]; go_simp)
      exact FIN.out
    · have a7 : ¬ (Lt : Int) > 0 := by omega
      generalize ((t.p : Nat) : Int) = P0 at *
      have hS : V.drew.cell? ⟨xb, 0, none⟩ = some (.int .i64 I0) ∧ V.drew.cell? ⟨xb, 1, none⟩ = some (.int .i64 P0) ∧ V.drew.cell? ⟨xb, 2, none⟩ = some (.int .i64 (Lt : Nat)) ∧ V.drew.cell? ⟨pa, 0, none⟩ = some (.int .i64 s0) ∧ V.drew.cell? ⟨pa + 1, 0, none⟩ = some (.int .i64 (i : Nat)) ∧ V.drew.cell? ⟨p1, 0, none⟩ = some (.slice (some ⟨g, 0, none⟩) m c1) ∧ V.drew.cell? ⟨g, i, none⟩ = some (.int .i64 I0) := ⟨y1, y2, y3, y4, y5, y6, y7⟩
      clear y1 y2 y3 y4 y5 y6 y7 HPS HS0
      gi_wp2
      refine round_anyS (S := fun w' => w'.cell? ⟨xb, 0, none⟩ = some (.int .i64 I0) ∧ w'.cell? ⟨xb, 1, none⟩ = some (.int .i64 P0) ∧ w'.cell? ⟨xb, 2, none⟩ = some (.int .i64 (Lt : Nat)) ∧ w'.cell? ⟨pa, 0, none⟩ = some (.int .i64 s0) ∧ w'.cell? ⟨pa + 1, 0, none⟩ = some (.int .i64 (i : Nat)) ∧ w'.cell? ⟨p1, 0, none⟩ = some (.slice (some ⟨g, 0, none⟩) m c1) ∧ w'.cell? ⟨g, i, none⟩ = some (.int .i64 I0)) (by kernel_rfl) (by kernel_rfl) ?_
      (refine anyS_take (i := 0) (v := ?_) rfl (by kernel_rfl) (by kernel_rfl) (by kernel_rfl) (fun _ _ _ h => h) (Or.inl ⟨by kernel_rfl, ?_⟩) hS ?_); rotate_left; (focus (intro w' hSw; obtain ⟨q1, q2, q3, q4, q5, q6, q7⟩ := hSw; go_simp; (try with_reducible rfl))); (try simp only [Act.put, List.getElem_toArray, List.getElem_cons_zero, List.getElem_cons_succ, List.setIfInBounds_toArray, List.set_cons_zero, List.set_cons_succ])
      (refine anyS_take (i := 1) (v := ?_) rfl (by kernel_rfl) (by kernel_rfl) (by kernel_rfl) (fun _ _ _ h => h) (Or.inl ⟨by kernel_rfl, ?_⟩) hS ?_); rotate_left; (focus (intro w' hSw; obtain ⟨q1, q2, q3, q4, q5, q6, q7⟩ := hSw; go_simp; (try with_reducible rfl))); (try simp only [Act.put, List.getElem_toArray, List.getElem_cons_zero, List.getElem_cons_succ, List.setIfInBounds_toArray, List.set_cons_zero, List.set_cons_succ])
      (refine anyS_take (i := 2) (v := ?_) rfl (by kernel_rfl) (by kernel_rfl) (by kernel_rfl) (fun _ _ _ h => h) (Or.inl ⟨by kernel_rfl, ?_⟩) hS ?_); rotate_left; (focus (intro w' hSw; obtain ⟨q1, q2, q3, q4, q5, q6, q7⟩ := hSw; go_simp; (try with_reducible rfl))); (try simp only [Act.put, List.getElem_toArray, List.getElem_cons_zero, List.getElem_cons_succ, List.setIfInBounds_toArray, List.set_cons_zero, List.set_cons_succ])
      (refine anyS_take (i := 3) (v := ?_) rfl (by kernel_rfl) (by kernel_rfl) (by kernel_rfl) (fun _ _ _ h => h) (Or.inl ⟨by kernel_rfl, ?_⟩) hS ?_); rotate_left; (focus (intro w' hSw; obtain ⟨q1, q2, q3, q4, q5, q6, q7⟩ := hSw; go_simp; (try with_reducible rfl))); (try simp only [Act.put, List.getElem_toArray, List.getElem_cons_zero, List.getElem_cons_succ, List.setIfInBounds_toArray, List.set_cons_zero, List.set_cons_succ])
      (refine anyS_take (i := 4) (v := undef) rfl (by kernel_rfl) (by kernel_rfl) (by kernel_rfl) (fun _ _ _ h => h) (Or.inr ⟨by kernel_rfl, rfl⟩) hS ?_); (try simp only [Act.put, List.getElem_toArray, List.getElem_cons_zero, List.getElem_cons_succ, List.setIfInBounds_toArray, List.set_cons_zero, List.set_cons_succ])
      (refine anyS_take (i := 5) (v := undef) rfl (by kernel_rfl) (by kernel_rfl) (by kernel_rfl) (fun _ _ _ h => h) (Or.inr ⟨by kernel_rfl, rfl⟩) hS ?_); (try simp only [Act.put, List.getElem_toArray, List.getElem_cons_zero, List.getElem_cons_succ, List.setIfInBounds_toArray, List.set_cons_zero, List.set_cons_succ])
      (refine anyS_take (i := 6) (v := undef) rfl (by kernel_rfl) (by kernel_rfl) (by kernel_rfl) (fun _ _ _ h => h) (Or.inr ⟨by kernel_rfl, rfl⟩) hS ?_); (try simp only [Act.put, List.getElem_toArray, List.getElem_cons_zero, List.getElem_cons_succ, List.setIfInBounds_toArray, List.set_cons_zero, List.set_cons_succ])
      (refine anyS_take (i := 7) (v := undef) rfl (by kernel_rfl) (by kernel_rfl) (by kernel_rfl) (fun _ _ _ h => h) (Or.inr ⟨by kernel_rfl, rfl⟩) hS ?_); (try simp only [Act.put, List.getElem_toArray, List.getElem_cons_zero, List.getElem_cons_succ, List.setIfInBounds_toArray, List.set_cons_zero, List.set_cons_succ])
      (refine anyS_take (i := 8) (v := undef) rfl (by kernel_rfl) (by kernel_rfl) (by kernel_rfl) (fun _ _ _ h => h) (Or.inr ⟨by kernel_rfl, rfl⟩) hS ?_); (try simp only [Act.put, List.getElem_toArray, List.getElem_cons_zero, List.getElem_cons_succ, List.setIfInBounds_toArray, List.set_cons_zero, List.set_cons_succ])
      (refine anyS_take (i := 9) (v := undef) rfl (by kernel_rfl) (by kernel_rfl) (by kernel_rfl) (fun _ _ _ h => h) (Or.inr ⟨by kernel_rfl, rfl⟩) hS ?_); (try simp only [Act.put, List.getElem_toArray, List.getElem_cons_zero, List.getElem_cons_succ, List.setIfInBounds_toArray, List.set_cons_zero, List.set_cons_succ])
      (refine anyS_take (i := 10) (v := undef) rfl (by kernel_rfl) (by kernel_rfl) (by kernel_rfl) (fun _ _ _ h => h) (Or.inr ⟨by kernel_rfl, rfl⟩) hS ?_); (try simp only [Act.put, List.getElem_toArray, List.getElem_cons_zero, List.getElem_cons_succ, List.setIfInBounds_toArray, List.set_cons_zero, List.set_cons_succ])
      (refine anyS_take (i := 11) (v := undef) rfl (by kernel_rfl) (by kernel_rfl) (by kernel_rfl) (fun _ _ _ h => h) (Or.inr ⟨by kernel_rfl, rfl⟩) hS ?_); (try simp only [Act.put, List.getElem_toArray, List.getElem_cons_zero, List.getElem_cons_succ, List.setIfInBounds_toArray, List.set_cons_zero, List.set_cons_succ])
      (refine anyS_take (i := 12) (v := undef) rfl (by kernel_rfl) (by kernel_rfl) (by kernel_rfl) (fun _ _ _ h => h) (Or.inr ⟨by kernel_rfl, rfl⟩) hS ?_); (try simp only [Act.put, List.getElem_toArray, List.getElem_cons_zero, List.getElem_cons_succ, List.setIfInBounds_toArray, List.set_cons_zero, List.set_cons_succ])
      (refine anyS_take (i := 13) (v := undef) rfl (by kernel_rfl) (by kernel_rfl) (by kernel_rfl) (fun _ _ _ h => h) (Or.inr ⟨by kernel_rfl, rfl⟩) hS ?_); (try simp only [Act.put, List.getElem_toArray, List.getElem_cons_zero, List.getElem_cons_succ, List.setIfInBounds_toArray, List.set_cons_zero, List.set_cons_succ])
      (refine anyS_take (i := 14) (v := undef) rfl (by kernel_rfl) (by kernel_rfl) (by kernel_rfl) (fun _ _ _ h => h) (Or.inr ⟨by kernel_rfl, rfl⟩) hS ?_); (try simp only [Act.put, List.getElem_toArray, List.getElem_cons_zero, List.getElem_cons_succ, List.setIfInBounds_toArray, List.set_cons_zero, List.set_cons_succ])
      (refine anyS_take (i := 15) (v := undef) rfl (by kernel_rfl) (by kernel_rfl) (by kernel_rfl) (fun _ _ _ h => h) (Or.inr ⟨by kernel_rfl, rfl⟩) hS ?_); (try simp only [Act.put, List.getElem_toArray, List.getElem_cons_zero, List.getElem_cons_succ, List.setIfInBounds_toArray, List.set_cons_zero, List.set_cons_succ])
      (refine anyS_take (i := 16) (v := undef) rfl (by kernel_rfl) (by kernel_rfl) (by kernel_rfl) (fun _ _ _ h => h) (Or.inr ⟨by kernel_rfl, rfl⟩) hS ?_); (try simp only [Act.put, List.getElem_toArray, List.getElem_cons_zero, List.getElem_cons_succ, List.setIfInBounds_toArray, List.set_cons_zero, List.set_cons_succ])
      (refine anyS_take (i := 17) (v := undef) rfl (by kernel_rfl) (by kernel_rfl) (by kernel_rfl) (fun _ _ _ h => h) (Or.inr ⟨by kernel_rfl, rfl⟩) hS ?_); (try simp only [Act.put, List.getElem_toArray, List.getElem_cons_zero, List.getElem_cons_succ, List.setIfInBounds_toArray, List.set_cons_zero, List.set_cons_succ])
      (refine anyS_take (i := 18) (v := undef) rfl (by kernel_rfl) (by kernel_rfl) (by kernel_rfl) (fun _ _ _ h => h) (Or.inr ⟨by kernel_rfl, rfl⟩) hS ?_); (try simp only [Act.put, List.getElem_toArray, List.getElem_cons_zero, List.getElem_cons_succ, List.setIfInBounds_toArray, List.set_cons_zero, List.set_cons_succ])
      (refine anyS_take (i := 19) (v := undef) rfl (by kernel_rfl) (by kernel_rfl) (by kernel_rfl) (fun _ _ _ h => h) (Or.inr ⟨by kernel_rfl, rfl⟩) hS ?_); (try simp only [Act.put, List.getElem_toArray, List.getElem_cons_zero, List.getElem_cons_succ, List.setIfInBounds_toArray, List.set_cons_zero, List.set_cons_succ])
      (refine anyS_take (i := 20) (v := undef) rfl (by kernel_rfl) (by kernel_rfl) (by kernel_rfl) (fun _ _ _ h => h) (Or.inr ⟨by kernel_rfl, rfl⟩) hS ?_); (try simp only [Act.put, List.getElem_toArray, List.getElem_cons_zero, List.getElem_cons_succ, List.setIfInBounds_toArray, List.set_cons_zero, List.set_cons_succ])
      (refine anyS_take (i := 21) (v := undef) rfl (by kernel_rfl) (by kernel_rfl) (by kernel_rfl) (fun _ _ _ h => h) (Or.inr ⟨by kernel_rfl, rfl⟩) hS ?_); (try simp only [Act.put, List.getElem_toArray, List.getElem_cons_zero, List.getElem_cons_succ, List.setIfInBounds_toArray, List.set_cons_zero, List.set_cons_succ])
      (refine anyS_take (i := 22) (v := undef) rfl (by kernel_rfl) (by kernel_rfl) (by kernel_rfl) (fun _ _ _ h => h) (Or.inr ⟨by kernel_rfl, rfl⟩) hS ?_); (try simp only [Act.put, List.getElem_toArray, List.getElem_cons_zero, List.getElem_cons_succ, List.setIfInBounds_toArray, List.set_cons_zero, List.set_cons_succ])
      (refine anyS_take (i := 23) (v := undef) rfl (by kernel_rfl) (by kernel_rfl) (by kernel_rfl) (fun _ _ _ h => h) (Or.inr ⟨by kernel_rfl, rfl⟩) hS ?_); (try simp only [Act.put, List.getElem_toArray, List.getElem_cons_zero, List.getElem_cons_succ, List.setIfInBounds_toArray, List.set_cons_zero, List.set_cons_succ])
      (refine anyS_take (i := 24) (v := undef) rfl (by kernel_rfl) (by kernel_rfl) (by kernel_rfl) (fun _ _ _ h => h) (Or.inr ⟨by kernel_rfl, rfl⟩) hS ?_); (try simp only [Act.put, List.getElem_toArray, List.getElem_cons_zero, List.getElem_cons_succ, List.setIfInBounds_toArray, List.set_cons_zero, List.set_cons_succ])
      (refine anyS_take (i := 25) (v := undef) rfl (by kernel_rfl) (by kernel_rfl) (by kernel_rfl) (fun _ _ _ h => h) (Or.inr ⟨by kernel_rfl, rfl⟩) hS ?_); (try simp only [Act.put, List.getElem_toArray, List.getElem_cons_zero, List.getElem_cons_succ, List.setIfInBounds_toArray, List.set_cons_zero, List.set_cons_succ])
      (refine anyS_take (i := 26) (v := ?_) rfl (by kernel_rfl) (by kernel_rfl) (by kernel_rfl) (fun _ _ _ h => h) (Or.inl ⟨by kernel_rfl, ?_⟩) hS ?_); rotate_left; (focus (intro w' hSw; obtain ⟨q1, q2, q3, q4, q5, q6, q7⟩ := hSw; go_simp; (try with_reducible rfl))); (try simp only [Act.put, List.getElem_toArray, List.getElem_cons_zero, List.getElem_cons_succ, List.setIfInBounds_toArray, List.set_cons_zero, List.set_cons_succ])
      refine anyS_done (by kernel_rfl) ?_ _
      generalize V.drew = Vd at *
      obtain ⟨y1, y2, y3, y4, y5, y6, y7⟩ := hS
      gi_wp2_with (simp only [Oper.semAt]; go_simp)
      exact FIN.out
  case done =>
    rintro D W10 ⟨h1, pq⟩ hD
    obtain ⟨hsz, hdis, hids, hRM, hU, hsum⟩ := HQ.out
    obtain ⟨d26, e16, row6, st6, sd6, uW6, r6, z6, z5, z4, z3⟩ := F6.out
    have b10 : Below w6.heap.size w6 W10 := B7.out.trans (pq.low.mono B7.out.size)
    have d10 := (b10.block (W.heap.size + 2) (by omega)).trans d26
    have q2 : W10.cell? ⟨W.heap.size + 2, 0, none⟩ = some (.bool false) := cell_of_row _ _ 0 _ _ _ d10
    have z2 : W10.frozen? ⟨W.heap.size + 2, 0, none⟩ = false := by simp [World.frozen?, d10]
    have f2 := heap_set (c := [_]) d10 0 (.bool true)
    have uS : Upd (fun k => k = W.heap.size + 2) W10 (W10.setCell ⟨W.heap.size + 2, 0, none⟩ (.bool true)) := (Upd.refl (fun k => k = W.heap.size + 2) W10).setCell (p := ⟨W.heap.size + 2, 0, none⟩) (.inl rfl) _
    have hz9 := ZC.out
    have hz7 := B7.out.size
    have hlt := (Array.getElem?_eq_some_iff.1 hD).1
    have hDF := (uS.block W9.heap.size hlt (by omega)).trans hD
    have uF : Upd (fun k => W.heap.size ≤ k) w6 (W10.setCell ⟨W.heap.size + 2, 0, none⟩ (.bool true)) := (Upd.of_below b10).trans' (uS.mono (fun k e => by omega))
    have FF := hid (And.intro f2 (And.intro hDF (And.intro uF (And.intro uW6 (And.intro st6 (And.intro hsz (And.intro (show W.heap.size + 2 < W9.heap.size by omega) trivial)))))))
    clear d26 e16 row6 st6 sd6 uW6 r6 z6 z5 z4 z3 b10 d10 f2 uS hz9 hz7 hlt hDF uF hsz hdis hids hRM hU hsum h1 pq hD PQ0 TEL
    go_wp2
    obtain ⟨f2, hDF, uF, uW6, st6, hsz, h9, _⟩ := FF.out
    generalize (W10.setCell ⟨W.heap.size + 2, 0, none⟩ (.bool true)) = Fw at *
    refine ⟨by simp, .inl ⟨_, _, rfl, run_takeDeferred hDF, ?_⟩⟩
    have uP : Upd (fun k => k = W9.heap.size) Fw (Fw.putObj W9.heap.size (.deferred none)) := upd_put (S := fun k => k = W9.heap.size) rfl _
    have g2 := (uP.block (W.heap.size + 2) (Array.getElem?_eq_some_iff.1 f2).1 (by omega)).trans f2
    have uG : Upd (fun k => W.heap.size ≤ k) w6 (Fw.putObj W9.heap.size (.deferred none)) := uF.trans' (uP.mono (fun k e => by omega))
    exact ⟨_, one_ret rfl _ _ (W.heap.size + 2) _ rfl g2, rfl, upd_more' uW6 uG (fun k e => e), st6.on (fun k e => uG.block k (by have := hsz k e; have := uW6.size; omega) (by have := hsz k e; omega))⟩
  case stop => intro c W' hF; exact hF.elim
end Go.Proofs.Ytmeoonnofiicpaa.W.R5
