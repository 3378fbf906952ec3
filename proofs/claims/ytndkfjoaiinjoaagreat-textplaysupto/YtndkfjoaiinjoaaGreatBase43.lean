import Derived.Test.YtndkfjoaiinjoaaGreatBase41
/- TextPlays: act, where two are put together. -/
namespace Go.Proofs.YtndkfjoaiinjoaaGreat.W
open Go.ChangeShapes Go.WideShapes Go.RowKit Go.Shelf Si
set_option linter.unusedVariables false
set_option linter.unusedSimpArgs false
section
variable {W W' : World} {pb hb rb : Nat} {lv wv vv : Value} {room : Nat} {L : List Rc} {ws : List Nat} {vs : List Tv}
set_option maxRecDepth 100000 in
set_option maxHeartbeats 4000000 in
theorem act_three (h : Tpl W pb hb rb lv wv vv room L ws vs) (x : A8) (hx : x.wf W) (hl : x.l ≤ 1100000) (hi : aliveB L vs x.i = true) (hk : aliveB L vs x.k = true) (hw : x.what = 3) (n : Nat) (v : Tv) (y : Nat) (hn : x.i = n) (hv : vs[n]? = some v) (hy : ws[n]? = some y) (n' : Nat) (v' : Tv) (y' : Nat) (hn' : x.k = n') (hv' : vs[n']? = some v') (hy' : ws[n']? = some y') (Goal : World → Prop)
    (c1 : ∀ w2 v1 v2, Below W.heap.size W w2 → Two (W.alloc (.cells #[.int .i64 x.what, .string x.text, .int .i64 x.int, .int .i64 x.i, .int .i64 x.k, .int .i64 x.a, .int .i64 x.b, .slice x.o x.l x.c] 62)).heap.size w2 v1 v2 (wsel ws (rsel L vs x.N x.l)) (vsel vs (rsel L vs x.N x.l)) → W.heap.size < w2.heap.size → ∀ w, Below w2.heap.size w2 w → Asked 9 #[.pointer (some ⟨hb, 0, none⟩), .int .u64 (y : Nat), .int .u64 (y' : Nat), v1] 44 #[.pointer (some ⟨rb, 0, none⟩), .agg #[.int .i64 (kdW v.whole), .int .i64 v.i, .int .u64 0, .string v.t, .int .i64 v.cell], .agg #[.int .i64 (kdW v'.whole), .int .i64 v'.i, .int .u64 0, .string v'.t, .int .i64 v'.cell], v2] pb (fun k => k = pb ∨ k = W.heap.size ∨ wv.ownBlock = some k ∨ vv.ownBlock = some k) Goal w) :
    Calls Tryz.prog 18 #[.pointer (some ⟨pb, 0, none⟩), .agg #[.int .i64 x.what, .string x.text, .int .i64 x.int, .int .i64 x.i, .int .i64 x.k, .int .i64 x.a, .int .i64 x.b, .slice x.o x.l x.c]] W fun e w' => e = .returned (.bool true) ∧ Goal w' := by
  have hB1 : Below W.heap.size W (W.alloc (.cells #[.int .i64 x.what, .string x.text, .int .i64 x.int, .int .i64 x.i, .int .i64 x.k, .int .i64 x.a, .int .i64 x.b, .slice x.o x.l x.c] 62)) := (Below.refl _ W).alloc (Nat.le_refl _) _
  have hN1 := World.alloc_heap_new W (.cells #[.int .i64 x.what, .string x.text, .int .i64 x.int, .int .i64 x.i, .int .i64 x.k, .int .i64 x.a, .int .i64 x.b, .slice x.o x.l x.c] 62)
  have hz1 : (W.alloc (.cells #[.int .i64 x.what, .string x.text, .int .i64 x.int, .int .i64 x.i, .int .i64 x.k, .int .i64 x.a, .int .i64 x.b, .slice x.o x.l x.c] 62)).heap.size = W.heap.size + 1 := World.size_alloc ..
  have hw7 : ∀ j, j < x.l → ∃ a, x.o = some a ∧ (W.alloc (.cells #[.int .i64 x.what, .string x.text, .int .i64 x.int, .int .i64 x.i, .int .i64 x.k, .int .i64 x.a, .int .i64 x.b, .slice x.o x.l x.c] 62)).cell? (a.add j) = some (.int .i64 (x.N j)) := fun j hj => by
    obtain ⟨a, h1, h2⟩ := hx.2.2.2.2.2.2 j hj
    exact ⟨a, h1, below_cell hB1 h2⟩
  have cr := roots_c (h.below hB1) x.o x.l x.c x.N hw7 hl
  have GG := hid (show ∀ w, Below (W.alloc (.cells #[.int .i64 x.what, .string x.text, .int .i64 x.int, .int .i64 x.i, .int .i64 x.k, .int .i64 x.a, .int .i64 x.b, .slice x.o x.l x.c] 62)).heap.size (W.alloc (.cells #[.int .i64 x.what, .string x.text, .int .i64 x.int, .int .i64 x.i, .int .i64 x.k, .int .i64 x.a, .int .i64 x.b, .slice x.o x.l x.c] 62)) w → Below W.heap.size W w ∧ w.heap[W.heap.size]? = some (.cells #[.int .i64 x.what, .string x.text, .int .i64 x.int, .int .i64 x.i, .int .i64 x.k, .int .i64 x.a, .int .i64 x.b, .slice x.o x.l x.c] 62 (0, 0)) ∧ w.heap[pb]? = some (.cells #[.pointer (some ⟨hb, 0, none⟩), .pointer (some ⟨rb, 0, none⟩), wv, vv] 59 (0, 0)) from fun w hw => ⟨hB1.trans (hw.mono hB1.size), (hw.block _ (by omega)).trans hN1, ((hB1.trans (hw.mono hB1.size)).block _ (h.lt pb (.inl rfl))).trans h.blk⟩)
  have c7 : (W.alloc (.cells #[.int .i64 x.what, .string x.text, .int .i64 x.int, .int .i64 x.i, .int .i64 x.k, .int .i64 x.a, .int .i64 x.b, .slice x.o x.l x.c] 62)).cell? ⟨W.heap.size, 7, none⟩ = some (.slice x.o x.l x.c) := cell_of_row _ _ 7 _ _ _ hN1
  have C1 := hid c1
  have cI := hid (show ∀ w, Below W.heap.size W w → Calls Tryz.prog 19 #[.pointer (some ⟨pb, 0, none⟩), .int .i64 x.i] w fun e w' => e = .returned (.bool (aliveB L vs x.i)) ∧ Below w.heap.size w w' from fun w hB => alive_c (h.below hB) x.i)
  have cK := hid (show ∀ w, Below W.heap.size W w → Calls Tryz.prog 19 #[.pointer (some ⟨pb, 0, none⟩), .int .i64 x.k] w fun e w' => e = .returned (.bool (aliveB L vs x.k)) ∧ Below w.heap.size w w' from fun w hB => alive_c (h.below hB) x.k)
  obtain ⟨gw, gv, cw, cv, tr, hgw, hgv⟩ := h.tr2 hv hy
  have hnm := (List.getElem?_eq_some_iff.1 hv).1
  have TR := hid tr
  have GV := hid (And.intro hgw hgv)
  have o1 : (0 : Int) ≤ n := Int.natCast_nonneg _
  have o2 : (n : Int) < vs.length := by omega
  obtain ⟨gw', gv', cw', cv', tr'⟩ := h.tr hv' hy'
  have hnm' := (List.getElem?_eq_some_iff.1 hv').1
  have eqs : gw = gw' ∧ cw = cw' ∧ gv = gv' ∧ cv = cv' := by
    have e1 := tr.p2.symm.trans tr'.p2
    have e2 := tr.p3.symm.trans tr'.p3
    simp at e1 e2
    exact ⟨e1.1, e1.2, e2.1, e2.2⟩
  obtain ⟨h1', h2', h3', h4'⟩ := eqs
  subst h1'
  subst h2'
  subst h3'
  subst h4'
  have TR' := hid tr'
  have o3 : (0 : Int) ≤ n' := Int.natCast_nonneg _
  have o4 : (n' : Int) < vs.length := by omega
  rw [hi] at cI
  rw [hk] at cK
  clear hw7 hx hl hN1 hz1 hB1 h c1 hi hk hv hy tr hnm hgw hgv hv' hy' tr' hnm'
  obtain ⟨xw, xt, xi, xI, xk, xa, xb, xo, xl, xc, xN⟩ := x
  simp only at *
  subst hw
  subst hn
  subst hn'
  go_enter Tryz.func18, Tryz.ntmps18
  go_upto_region 1 with fail
  generalize W.alloc (.cells #[.int .i64 3, .string xt, .int .i64 xi, .int .i64 n, .int .i64 n', .int .i64 xa, .int .i64 xb, .slice xo xl xc] 62) = W1 at *
  go_upto_region 2 with (go_at_call 40; (with_reducible refine cr.mono ?_); rintro e w2 ⟨v1, v2, rfl, hB2, h2⟩; clear cr)
  obtain ⟨hBW, g2, g3⟩ := GG.out w2 hB2
  have e0 : w2.cell? ⟨W.heap.size, 0, none⟩ = some (.int .i64 3) := cell_of_row _ _ 0 _ _ _ g2
  have e3 : w2.cell? ⟨W.heap.size, 3, none⟩ = some (.int .i64 n) := cell_of_row _ _ 3 _ _ _ g2
  have e4 : w2.cell? ⟨W.heap.size, 4, none⟩ = some (.int .i64 n') := cell_of_row _ _ 4 _ _ _ g2
  have CC := hid (C1.out w2 v1 v2 hBW h2 (Array.getElem?_eq_some_iff.1 g2).1)
  have HK := hid (show ∀ w3, Below w2.heap.size w2 w3 → w3.cell? ⟨W.heap.size, 4, none⟩ = some (.int .i64 n') ∧ Below W.heap.size W w3 from fun w3 hB3 => ⟨below_cell hB3 e4, hBW.trans (hB3.mono hBW.size)⟩)
  have HZ := hid (show ∀ w3, Below w2.heap.size w2 w3 → w3.cell? ⟨W.heap.size, 0, none⟩ = some (.int .i64 3) ∧ w3.heap[W.heap.size]? = some (.cells #[.int .i64 3, .string xt, .int .i64 xi, .int .i64 n, .int .i64 n', .int .i64 xa, .int .i64 xb, .slice xo xl xc] 62 (0, 0)) ∧ w3.heap[pb]? = some (.cells #[.pointer (some ⟨hb, 0, none⟩), .pointer (some ⟨rb, 0, none⟩), wv, vv] 59 (0, 0)) from fun w3 hB3 => ⟨below_cell hB3 e0, (hB3.block _ (Array.getElem?_eq_some_iff.1 g2).1).trans g2, (hB3.block _ (Array.getElem?_eq_some_iff.1 g3).1).trans g3⟩)
  have ca := cI.out w2 hBW
  clear c7 g2 g3 hB2 GG cI e4 C1 h2
  go_upto_region 15 with (go_at_call 19; first | ((with_reducible refine ca.mono ?_); rintro e w3 ⟨rfl, hB3⟩; (obtain ⟨e4, hB4⟩ := HK.out w3 hB3); (have cb := cK.out w3 hB4); clear ca cK) | ((with_reducible refine cb.mono ?_); rintro e w5 ⟨rfl, hB5⟩; (have hB25 := hB3.trans (hB5.mono hB3.size)); (obtain ⟨f4, hB6⟩ := HK.out w5 hB25); (obtain ⟨f0, Gc⟩ := HZ.out w5 hB25); (have CD := hid (CC.out w5.drew hB25.drew)); (have GG := hid Gc); clear cb HK HZ hB25 Gc CC))
  unfold Asked at CD
  have CC := CD
  have T1 := hid (TR.out.below hB6)
  have T1' := hid (TR'.out.below hB6)
  generalize W.heap.size = b0 at *
  have HS1 := hid (show w5.drew.cell? ⟨pb, 0, none⟩ = some (.pointer (some ⟨hb, 0, none⟩)) ∧ w5.drew.cell? ⟨pb, 2, none⟩ = some (.slice (some ⟨gw, 0, none⟩) vs.length cw) ∧ w5.drew.cell? ⟨b0, 3, none⟩ = some (.int .i64 n) ∧ w5.drew.cell? ⟨gw, n, none⟩ = some (.int .u64 (y : Nat)) ∧ w5.drew.cell? ⟨b0, 4, none⟩ = some (.int .i64 n') ∧ w5.drew.cell? ⟨gw, n', none⟩ = some (.int .u64 (y' : Nat)) from ⟨T1.out.p0, T1.out.p2, cell_of_row w5 _ 3 _ _ _ GG.out.1, T1.out.w0, cell_of_row w5 _ 4 _ _ _ GG.out.1, T1'.out.w0⟩)
  clear e0 e3 e4 f0 f4 hB3 hB4 hB5
  refine wp_region_noPanic ?_
  refine plain_anyM (z := [21]) (S := fun _ => True) (T := fun w' => w'.cell? ⟨pb, 0, none⟩ = some (.pointer (some ⟨hb, 0, none⟩)) ∧ w'.cell? ⟨pb, 2, none⟩ = some (.slice (some ⟨gw, 0, none⟩) vs.length cw) ∧ w'.cell? ⟨b0, 3, none⟩ = some (.int .i64 n) ∧ w'.cell? ⟨gw, n, none⟩ = some (.int .u64 (y : Nat)) ∧ w'.cell? ⟨b0, 4, none⟩ = some (.int .i64 n') ∧ w'.cell? ⟨gw, n', none⟩ = some (.int .u64 (y' : Nat))) (by kernel_rfl) ?_
  have hT := HS1.out
  (refine anyM_take0 (i := 0) (v := ?_) rfl (by kernel_rfl) (by kernel_rfl) (by kernel_rfl) (fun _ _ _ h => h) (Or.inl ⟨by rfl, ?_⟩) ?_); rotate_left; (focus (intro w' hSw; go_simp; (try with_reducible rfl))); (try simp only [Act.put, List.getElem_toArray, List.getElem_cons_zero, List.getElem_cons_succ, List.setIfInBounds_toArray, List.set_cons_zero, List.set_cons_succ])
  (refine anyM_take0 (i := 1) (v := ?_) rfl (by kernel_rfl) (by kernel_rfl) (by kernel_rfl) (fun _ _ _ h => h) (Or.inl ⟨by rfl, ?_⟩) ?_); rotate_left; (focus (intro w' hSw; go_simp; (try with_reducible rfl))); (try simp only [Act.put, List.getElem_toArray, List.getElem_cons_zero, List.getElem_cons_succ, List.setIfInBounds_toArray, List.set_cons_zero, List.set_cons_succ])
  (refine anyM_take0 (i := 2) (v := ?_) rfl (by kernel_rfl) (by kernel_rfl) (by kernel_rfl) (fun _ _ _ h => h) (Or.inl ⟨by rfl, ?_⟩) ?_); rotate_left; (focus (intro w' hSw; go_simp; (try with_reducible rfl))); (try simp only [Act.put, List.getElem_toArray, List.getElem_cons_zero, List.getElem_cons_succ, List.setIfInBounds_toArray, List.set_cons_zero, List.set_cons_succ])
  (refine anyM_take1 (i := 3) (v := ?_) rfl (by kernel_rfl) (by kernel_rfl) (by kernel_rfl) (fun _ _ _ h => h) (Or.inl ⟨by rfl, ?_⟩) hT ?_); rotate_left; (focus (intro w' hSw; obtain ⟨q1, q2, q3, q4, q5, q6⟩ := hSw; go_simp; (try with_reducible rfl))); (try simp only [Act.put, List.getElem_toArray, List.getElem_cons_zero, List.getElem_cons_succ, List.setIfInBounds_toArray, List.set_cons_zero, List.set_cons_succ])
  (refine anyM_take0 (i := 4) (v := ?_) rfl (by kernel_rfl) (by kernel_rfl) (by kernel_rfl) (fun _ _ _ h => h) (Or.inl ⟨by rfl, ?_⟩) ?_); rotate_left; (focus (intro w' hSw; go_simp; (try with_reducible rfl))); (try simp only [Act.put, List.getElem_toArray, List.getElem_cons_zero, List.getElem_cons_succ, List.setIfInBounds_toArray, List.set_cons_zero, List.set_cons_succ])
  (refine anyM_take0 (i := 5) (v := ?_) rfl (by kernel_rfl) (by kernel_rfl) (by kernel_rfl) (fun _ _ _ h => h) (Or.inl ⟨by rfl, ?_⟩) ?_); rotate_left; (focus (intro w' hSw; go_simp; (try with_reducible rfl))); (try simp only [Act.put, List.getElem_toArray, List.getElem_cons_zero, List.getElem_cons_succ, List.setIfInBounds_toArray, List.set_cons_zero, List.set_cons_succ])
  (refine anyM_take0 (i := 6) (v := ?_) rfl (by kernel_rfl) (by kernel_rfl) (by kernel_rfl) (fun _ _ _ h => h) (Or.inl ⟨by rfl, ?_⟩) ?_); rotate_left; (focus (intro w' hSw; go_simp; (try with_reducible rfl))); (try simp only [Act.put, List.getElem_toArray, List.getElem_cons_zero, List.getElem_cons_succ, List.setIfInBounds_toArray, List.set_cons_zero, List.set_cons_succ])
  (refine anyM_take1 (i := 7) (v := ?_) rfl (by kernel_rfl) (by kernel_rfl) (by kernel_rfl) (fun _ _ _ h => h) (Or.inl ⟨by rfl, ?_⟩) hT ?_); rotate_left; (focus (intro w' hSw; obtain ⟨q1, q2, q3, q4, q5, q6⟩ := hSw; go_simp; (try with_reducible rfl))); (try simp only [Act.put, List.getElem_toArray, List.getElem_cons_zero, List.getElem_cons_succ, List.setIfInBounds_toArray, List.set_cons_zero, List.set_cons_succ])
  (refine anyM_take0 (i := 8) (v := ?_) rfl (by kernel_rfl) (by kernel_rfl) (by kernel_rfl) (fun _ _ _ h => h) (Or.inl ⟨by rfl, ?_⟩) ?_); rotate_left; (focus (intro w' hSw; go_simp; (try with_reducible rfl))); (try simp only [Act.put, List.getElem_toArray, List.getElem_cons_zero, List.getElem_cons_succ, List.setIfInBounds_toArray, List.set_cons_zero, List.set_cons_succ])
  (refine anyM_take1 (i := 9) (v := ?_) rfl (by kernel_rfl) (by kernel_rfl) (by kernel_rfl) (fun _ _ _ h => h) (Or.inl ⟨by rfl, ?_⟩) hT ?_); rotate_left; (focus (intro w' hSw; obtain ⟨q1, q2, q3, q4, q5, q6⟩ := hSw; go_simp; (try with_reducible rfl))); (try simp only [Act.put, List.getElem_toArray, List.getElem_cons_zero, List.getElem_cons_succ, List.setIfInBounds_toArray, List.set_cons_zero, List.set_cons_succ])
  (refine anyM_take0 (i := 10) (v := ?_) rfl (by kernel_rfl) (by kernel_rfl) (by kernel_rfl) (fun _ _ _ h => h) (Or.inl ⟨by rfl, ?_⟩) ?_); rotate_left; (focus (intro w' hSw; go_simp; (try with_reducible rfl))); (try simp only [Act.put, List.getElem_toArray, List.getElem_cons_zero, List.getElem_cons_succ, List.setIfInBounds_toArray, List.set_cons_zero, List.set_cons_succ])
  (refine anyM_take1 (i := 11) (v := ?_) rfl (by kernel_rfl) (by kernel_rfl) (by kernel_rfl) (fun _ _ _ h => h) (Or.inl ⟨by rfl, ?_⟩) hT ?_); rotate_left; (focus (intro w' hSw; obtain ⟨q1, q2, q3, q4, q5, q6⟩ := hSw; go_simp; (try with_reducible rfl))); (try simp only [Act.put, List.getElem_toArray, List.getElem_cons_zero, List.getElem_cons_succ, List.setIfInBounds_toArray, List.set_cons_zero, List.set_cons_succ])
  (refine anyM_take0 (i := 12) (v := ?_) rfl (by kernel_rfl) (by kernel_rfl) (by kernel_rfl) (fun _ _ _ h => h) (Or.inl ⟨by rfl, ?_⟩) ?_); rotate_left; (focus (intro w' hSw; go_simp; (try with_reducible rfl))); (try simp only [Act.put, List.getElem_toArray, List.getElem_cons_zero, List.getElem_cons_succ, List.setIfInBounds_toArray, List.set_cons_zero, List.set_cons_succ])
  (refine anyM_take0 (i := 13) (v := ?_) rfl (by kernel_rfl) (by kernel_rfl) (by kernel_rfl) (fun _ _ _ h => h) (Or.inl ⟨by rfl, ?_⟩) ?_); rotate_left; (focus (intro w' hSw; go_simp; (try with_reducible rfl))); (try simp only [Act.put, List.getElem_toArray, List.getElem_cons_zero, List.getElem_cons_succ, List.setIfInBounds_toArray, List.set_cons_zero, List.set_cons_succ])
  (refine anyM_take0 (i := 14) (v := ?_) rfl (by kernel_rfl) (by kernel_rfl) (by kernel_rfl) (fun _ _ _ h => h) (Or.inl ⟨by rfl, ?_⟩) ?_); rotate_left; (focus (intro w' hSw; go_simp; (try with_reducible rfl))); (try simp only [Act.put, List.getElem_toArray, List.getElem_cons_zero, List.getElem_cons_succ, List.setIfInBounds_toArray, List.set_cons_zero, List.set_cons_succ])
  (refine anyM_take1 (i := 15) (v := ?_) rfl (by kernel_rfl) (by kernel_rfl) (by kernel_rfl) (fun _ _ _ h => h) (Or.inl ⟨by rfl, ?_⟩) hT ?_); rotate_left; (focus (intro w' hSw; obtain ⟨q1, q2, q3, q4, q5, q6⟩ := hSw; go_simp; (try with_reducible rfl))); (try simp only [Act.put, List.getElem_toArray, List.getElem_cons_zero, List.getElem_cons_succ, List.setIfInBounds_toArray, List.set_cons_zero, List.set_cons_succ])
  (refine anyM_take0 (i := 16) (v := ?_) rfl (by kernel_rfl) (by kernel_rfl) (by kernel_rfl) (fun _ _ _ h => h) (Or.inl ⟨by rfl, ?_⟩) ?_); rotate_left; (focus (intro w' hSw; go_simp; (try with_reducible rfl))); (try simp only [Act.put, List.getElem_toArray, List.getElem_cons_zero, List.getElem_cons_succ, List.setIfInBounds_toArray, List.set_cons_zero, List.set_cons_succ])
  (refine anyM_take1 (i := 17) (v := ?_) rfl (by kernel_rfl) (by kernel_rfl) (by kernel_rfl) (fun _ _ _ h => h) (Or.inl ⟨by rfl, ?_⟩) hT ?_); rotate_left; (focus (intro w' hSw; obtain ⟨q1, q2, q3, q4, q5, q6⟩ := hSw; go_simp; (try with_reducible rfl))); (try simp only [Act.put, List.getElem_toArray, List.getElem_cons_zero, List.getElem_cons_succ, List.setIfInBounds_toArray, List.set_cons_zero, List.set_cons_succ])
  (refine anyM_take0 (i := 18) (v := ?_) rfl (by kernel_rfl) (by kernel_rfl) (by kernel_rfl) (fun _ _ _ h => h) (Or.inl ⟨by rfl, ?_⟩) ?_); rotate_left; (focus (intro w' hSw; go_simp; (try with_reducible rfl))); (try simp only [Act.put, List.getElem_toArray, List.getElem_cons_zero, List.getElem_cons_succ, List.setIfInBounds_toArray, List.set_cons_zero, List.set_cons_succ])
  (refine anyM_take1 (i := 19) (v := ?_) rfl (by kernel_rfl) (by kernel_rfl) (by kernel_rfl) (fun _ _ _ h => h) (Or.inl ⟨by rfl, ?_⟩) hT ?_); rotate_left; (focus (intro w' hSw; obtain ⟨q1, q2, q3, q4, q5, q6⟩ := hSw; go_simp; (try with_reducible rfl))); (try simp only [Act.put, List.getElem_toArray, List.getElem_cons_zero, List.getElem_cons_succ, List.setIfInBounds_toArray, List.set_cons_zero, List.set_cons_succ])
  (refine anyM_take0 (i := 20) (v := ?_) rfl (by kernel_rfl) (by kernel_rfl) (by kernel_rfl) (fun _ _ _ h => h) (Or.inl ⟨by rfl, ?_⟩) ?_); rotate_left; (focus (intro w' hSw; go_simp; (try with_reducible rfl))); (try simp only [Act.put, List.getElem_toArray, List.getElem_cons_zero, List.getElem_cons_succ, List.setIfInBounds_toArray, List.set_cons_zero, List.set_cons_succ])
  clear hT
  have cc := CC.out
  refine anyM_one (i := 21) (by kernel_rfl) rfl rfl (fun K hK => ?_)
  go_simp
  refine ⟨trivial, (callsIn_wide.2 cc).mono ?_⟩
  rintro e w3 ⟨av, ab, rfl, hk3, hm⟩
  refine hK _ _ ⟨.inl rfl, fun hh => ⟨cell_keep hh.1 (hk3 _ (.inl rfl)), cell_keep hh.2.1 (hk3 _ (.inl rfl)), cell_keep hh.2.2.1 (hk3 _ (.inr (.inl rfl))), cell_keep hh.2.2.2.1 (hk3 _ (.inr (.inr (.inl GV.out.1)))), cell_keep hh.2.2.2.2.1 (hk3 _ (.inr (.inl rfl))), cell_keep hh.2.2.2.2.2 (hk3 _ (.inr (.inr (.inl GV.out.1))))⟩⟩ ?_
  clear hK K cc
  (try simp only [Act.put, List.getElem_toArray, List.getElem_cons_zero, List.getElem_cons_succ, List.setIfInBounds_toArray, List.set_cons_zero, List.set_cons_succ])
  (refine anyM_take0 (i := 22) (v := ?_) rfl (by kernel_rfl) (by kernel_rfl) (by kernel_rfl) (fun _ _ _ h => h) (Or.inl ⟨by rfl, ?_⟩) ?_); rotate_left; (focus (intro w' hSw; go_simp; (try with_reducible rfl))); (try simp only [Act.put, List.getElem_toArray, List.getElem_cons_zero, List.getElem_cons_succ, List.setIfInBounds_toArray, List.set_cons_zero, List.set_cons_succ])
  (refine anyM_take0 (i := 23) (v := ?_) rfl (by kernel_rfl) (by kernel_rfl) (by kernel_rfl) (fun _ _ _ h => h) (Or.inl ⟨by rfl, ?_⟩) ?_); rotate_left; (focus (intro w' hSw; go_simp; (try with_reducible rfl))); (try simp only [Act.put, List.getElem_toArray, List.getElem_cons_zero, List.getElem_cons_succ, List.setIfInBounds_toArray, List.set_cons_zero, List.set_cons_succ])
  (refine anyM_take0 (i := 24) (v := ?_) rfl (by kernel_rfl) (by kernel_rfl) (by kernel_rfl) (fun _ _ _ h => h) (Or.inl ⟨by rfl, ?_⟩) ?_); rotate_left; (focus (intro w' hSw; go_simp; (try with_reducible rfl))); (try simp only [Act.put, List.getElem_toArray, List.getElem_cons_zero, List.getElem_cons_succ, List.setIfInBounds_toArray, List.set_cons_zero, List.set_cons_succ])
  (refine anyM_take0 (i := 25) (v := ?_) rfl (by kernel_rfl) (by kernel_rfl) (by kernel_rfl) (fun _ _ _ h => h) (Or.inl ⟨by rfl, ?_⟩) ?_); rotate_left; (focus (intro w' hSw; go_simp; (try with_reducible rfl))); (try simp only [Act.put, List.getElem_toArray, List.getElem_cons_zero, List.getElem_cons_succ, List.setIfInBounds_toArray, List.set_cons_zero, List.set_cons_succ])
  (refine anyM_take0 (i := 26) (v := ?_) rfl (by kernel_rfl) (by kernel_rfl) (by kernel_rfl) (fun _ _ _ h => h) (Or.inl ⟨by rfl, ?_⟩) ?_); rotate_left; (focus (intro w' hSw; go_simp; (try with_reducible rfl))); (try simp only [Act.put, List.getElem_toArray, List.getElem_cons_zero, List.getElem_cons_succ, List.setIfInBounds_toArray, List.set_cons_zero, List.set_cons_succ])
  refine anyM_done (by kernel_rfl) ?_ _
  refine NoPanic.normal ?_
  have HM := hid hm
  have HK3 := hid hk3
  clear hm hk3
  have k1 := (HK3.out pb (.inl rfl)).trans GG.out.2
  have k2 := (HK3.out b0 (.inr (.inl rfl))).trans GG.out.1
  have kt : ∀ k, (k = pb ∨ k = gw ∨ k = gv) → w3.heap[k]? = w5.drew.heap[k]? := by
    rintro k (rfl | rfl | rfl)
    · exact HK3.out k (.inl rfl)
    · exact HK3.out k (.inr (.inr (.inl GV.out.1)))
    · exact HK3.out k (.inr (.inr (.inr GV.out.2)))
  have t3 := T1.out.on kt
  have t3' := T1'.out.on kt
  have HS2 := hid (show w3.drew.cell? ⟨pb, 1, none⟩ = some (.pointer (some ⟨rb, 0, none⟩)) ∧ w3.drew.cell? ⟨pb, 3, none⟩ = some (.slice (some ⟨gv, 0, none⟩) vs.length cv) ∧ w3.drew.cell? ⟨b0, 3, none⟩ = some (.int .i64 n) ∧ w3.drew.cell? ⟨gv, n * 5, none⟩ = some (.int .i64 (kdW v.whole)) ∧ w3.drew.cell? ⟨gv, n * 5 + 1, none⟩ = some (.int .i64 v.i) ∧ w3.drew.cell? ⟨gv, n * 5 + 2, none⟩ = some (.int .u64 0) ∧ w3.drew.cell? ⟨gv, n * 5 + 3, none⟩ = some (.string v.t) ∧ w3.drew.cell? ⟨gv, n * 5 + 4, none⟩ = some (.int .i64 v.cell) ∧ w3.drew.cell? ⟨b0, 4, none⟩ = some (.int .i64 n') ∧ w3.drew.cell? ⟨gv, n' * 5, none⟩ = some (.int .i64 (kdW v'.whole)) ∧ w3.drew.cell? ⟨gv, n' * 5 + 1, none⟩ = some (.int .i64 v'.i) ∧ w3.drew.cell? ⟨gv, n' * 5 + 2, none⟩ = some (.int .u64 0) ∧ w3.drew.cell? ⟨gv, n' * 5 + 3, none⟩ = some (.string v'.t) ∧ w3.drew.cell? ⟨gv, n' * 5 + 4, none⟩ = some (.int .i64 v'.cell) from ⟨cell_of_row w3 _ 1 _ _ _ k1, t3.p3, cell_of_row w3 _ 3 _ _ _ k2, t3.v0, t3.v1, t3.v2, t3.v3, t3.v4, cell_of_row w3 _ 4 _ _ _ k2, t3'.v0, t3'.v1, t3'.v2, t3'.v3, t3'.v4⟩)
  have LT := hid (show pb < w3.heap.size ∧ b0 < w3.heap.size ∧ gv < w3.heap.size from ⟨(Array.getElem?_eq_some_iff.1 k1).1, (Array.getElem?_eq_some_iff.1 k2).1, cell_lt t3.v0⟩)
  clear k1 k2 kt t3 t3' HK3 GG HS1 CC CD T1 TR T1' TR'
  go_upto_region 16 with fail
  refine wp_region_noPanic ?_
  refine plain_anyM (z := [21, 26]) (S := fun _ => True) (T := fun w' => w'.cell? ⟨pb, 1, none⟩ = some (.pointer (some ⟨rb, 0, none⟩)) ∧ w'.cell? ⟨pb, 3, none⟩ = some (.slice (some ⟨gv, 0, none⟩) vs.length cv) ∧ w'.cell? ⟨b0, 3, none⟩ = some (.int .i64 n) ∧ w'.cell? ⟨gv, n * 5, none⟩ = some (.int .i64 (kdW v.whole)) ∧ w'.cell? ⟨gv, n * 5 + 1, none⟩ = some (.int .i64 v.i) ∧ w'.cell? ⟨gv, n * 5 + 2, none⟩ = some (.int .u64 0) ∧ w'.cell? ⟨gv, n * 5 + 3, none⟩ = some (.string v.t) ∧ w'.cell? ⟨gv, n * 5 + 4, none⟩ = some (.int .i64 v.cell) ∧ w'.cell? ⟨b0, 4, none⟩ = some (.int .i64 n') ∧ w'.cell? ⟨gv, n' * 5, none⟩ = some (.int .i64 (kdW v'.whole)) ∧ w'.cell? ⟨gv, n' * 5 + 1, none⟩ = some (.int .i64 v'.i) ∧ w'.cell? ⟨gv, n' * 5 + 2, none⟩ = some (.int .u64 0) ∧ w'.cell? ⟨gv, n' * 5 + 3, none⟩ = some (.string v'.t) ∧ w'.cell? ⟨gv, n' * 5 + 4, none⟩ = some (.int .i64 v'.cell)) (by kernel_rfl) ?_
  have hT := HS2.out
  (refine anyM_take0 (i := 0) (v := ?_) rfl (by kernel_rfl) (by kernel_rfl) (by kernel_rfl) (fun _ _ _ h => h) (Or.inl ⟨by rfl, ?_⟩) ?_); rotate_left; (focus (intro w' hSw; go_simp; (try with_reducible rfl))); (try simp only [Act.put, List.getElem_toArray, List.getElem_cons_zero, List.getElem_cons_succ, List.setIfInBounds_toArray, List.set_cons_zero, List.set_cons_succ])
  (refine anyM_take0 (i := 1) (v := ?_) rfl (by kernel_rfl) (by kernel_rfl) (by kernel_rfl) (fun _ _ _ h => h) (Or.inl ⟨by rfl, ?_⟩) ?_); rotate_left; (focus (intro w' hSw; go_simp; (try with_reducible rfl))); (try simp only [Act.put, List.getElem_toArray, List.getElem_cons_zero, List.getElem_cons_succ, List.setIfInBounds_toArray, List.set_cons_zero, List.set_cons_succ])
  (refine anyM_take0 (i := 2) (v := ?_) rfl (by kernel_rfl) (by kernel_rfl) (by kernel_rfl) (fun _ _ _ h => h) (Or.inl ⟨by rfl, ?_⟩) ?_); rotate_left; (focus (intro w' hSw; go_simp; (try with_reducible rfl))); (try simp only [Act.put, List.getElem_toArray, List.getElem_cons_zero, List.getElem_cons_succ, List.setIfInBounds_toArray, List.set_cons_zero, List.set_cons_succ])
  (refine anyM_take1 (i := 3) (v := ?_) rfl (by kernel_rfl) (by kernel_rfl) (by kernel_rfl) (fun _ _ _ h => h) (Or.inl ⟨by rfl, ?_⟩) hT ?_); rotate_left; (focus (intro w' hSw; obtain ⟨q1, q2, q3, q4, q5, q6, q7, q8, q9, q10, q11, q12, q13, q14⟩ := hSw; go_simp; (try with_reducible rfl))); (try simp only [Act.put, List.getElem_toArray, List.getElem_cons_zero, List.getElem_cons_succ, List.setIfInBounds_toArray, List.set_cons_zero, List.set_cons_succ])
  (refine anyM_take0 (i := 4) (v := ?_) rfl (by kernel_rfl) (by kernel_rfl) (by kernel_rfl) (fun _ _ _ h => h) (Or.inl ⟨by rfl, ?_⟩) ?_); rotate_left; (focus (intro w' hSw; go_simp; (try with_reducible rfl))); (try simp only [Act.put, List.getElem_toArray, List.getElem_cons_zero, List.getElem_cons_succ, List.setIfInBounds_toArray, List.set_cons_zero, List.set_cons_succ])
  (refine anyM_take0 (i := 5) (v := ?_) rfl (by kernel_rfl) (by kernel_rfl) (by kernel_rfl) (fun _ _ _ h => h) (Or.inl ⟨by rfl, ?_⟩) ?_); rotate_left; (focus (intro w' hSw; go_simp; (try with_reducible rfl))); (try simp only [Act.put, List.getElem_toArray, List.getElem_cons_zero, List.getElem_cons_succ, List.setIfInBounds_toArray, List.set_cons_zero, List.set_cons_succ])
  (refine anyM_take0 (i := 6) (v := ?_) rfl (by kernel_rfl) (by kernel_rfl) (by kernel_rfl) (fun _ _ _ h => h) (Or.inl ⟨by rfl, ?_⟩) ?_); rotate_left; (focus (intro w' hSw; go_simp; (try with_reducible rfl))); (try simp only [Act.put, List.getElem_toArray, List.getElem_cons_zero, List.getElem_cons_succ, List.setIfInBounds_toArray, List.set_cons_zero, List.set_cons_succ])
  (refine anyM_take1 (i := 7) (v := ?_) rfl (by kernel_rfl) (by kernel_rfl) (by kernel_rfl) (fun _ _ _ h => h) (Or.inl ⟨by rfl, ?_⟩) hT ?_); rotate_left; (focus (intro w' hSw; obtain ⟨q1, q2, q3, q4, q5, q6, q7, q8, q9, q10, q11, q12, q13, q14⟩ := hSw; go_simp; (try with_reducible rfl))); (try simp only [Act.put, List.getElem_toArray, List.getElem_cons_zero, List.getElem_cons_succ, List.setIfInBounds_toArray, List.set_cons_zero, List.set_cons_succ])
  (refine anyM_take0 (i := 8) (v := ?_) rfl (by kernel_rfl) (by kernel_rfl) (by kernel_rfl) (fun _ _ _ h => h) (Or.inl ⟨by rfl, ?_⟩) ?_); rotate_left; (focus (intro w' hSw; go_simp; (try with_reducible rfl))); (try simp only [Act.put, List.getElem_toArray, List.getElem_cons_zero, List.getElem_cons_succ, List.setIfInBounds_toArray, List.set_cons_zero, List.set_cons_succ])
  (refine anyM_take1 (i := 9) (v := ?_) rfl (by kernel_rfl) (by kernel_rfl) (by kernel_rfl) (fun _ _ _ h => h) (Or.inl ⟨by rfl, ?_⟩) hT ?_); rotate_left; (focus (intro w' hSw; obtain ⟨q1, q2, q3, q4, q5, q6, q7, q8, q9, q10, q11, q12, q13, q14⟩ := hSw; go_simp; (try with_reducible rfl))); (try simp only [Act.put, List.getElem_toArray, List.getElem_cons_zero, List.getElem_cons_succ, List.setIfInBounds_toArray, List.set_cons_zero, List.set_cons_succ])
  (refine anyM_take0 (i := 10) (v := ?_) rfl (by kernel_rfl) (by kernel_rfl) (by kernel_rfl) (fun _ _ _ h => h) (Or.inl ⟨by rfl, ?_⟩) ?_); rotate_left; (focus (intro w' hSw; go_simp; (try with_reducible rfl))); (try simp only [Act.put, List.getElem_toArray, List.getElem_cons_zero, List.getElem_cons_succ, List.setIfInBounds_toArray, List.set_cons_zero, List.set_cons_succ])
  (refine anyM_take1 (i := 11) (v := ?_) rfl (by kernel_rfl) (by kernel_rfl) (by kernel_rfl) (fun _ _ _ h => h) (Or.inl ⟨by rfl, ?_⟩) hT ?_); rotate_left; (focus (intro w' hSw; obtain ⟨q1, q2, q3, q4, q5, q6, q7, q8, q9, q10, q11, q12, q13, q14⟩ := hSw; go_simp; (try with_reducible rfl))); (try simp only [Act.put, List.getElem_toArray, List.getElem_cons_zero, List.getElem_cons_succ, List.setIfInBounds_toArray, List.set_cons_zero, List.set_cons_succ])
  (refine anyM_take0 (i := 12) (v := ?_) rfl (by kernel_rfl) (by kernel_rfl) (by kernel_rfl) (fun _ _ _ h => h) (Or.inl ⟨by rfl, ?_⟩) ?_); rotate_left; (focus (intro w' hSw; go_simp; (try with_reducible rfl))); (try simp only [Act.put, List.getElem_toArray, List.getElem_cons_zero, List.getElem_cons_succ, List.setIfInBounds_toArray, List.set_cons_zero, List.set_cons_succ])
  (refine anyM_take0 (i := 13) (v := ?_) rfl (by kernel_rfl) (by kernel_rfl) (by kernel_rfl) (fun _ _ _ h => h) (Or.inl ⟨by rfl, ?_⟩) ?_); rotate_left; (focus (intro w' hSw; go_simp; (try with_reducible rfl))); (try simp only [Act.put, List.getElem_toArray, List.getElem_cons_zero, List.getElem_cons_succ, List.setIfInBounds_toArray, List.set_cons_zero, List.set_cons_succ])
  (refine anyM_take0 (i := 14) (v := ?_) rfl (by kernel_rfl) (by kernel_rfl) (by kernel_rfl) (fun _ _ _ h => h) (Or.inl ⟨by rfl, ?_⟩) ?_); rotate_left; (focus (intro w' hSw; go_simp; (try with_reducible rfl))); (try simp only [Act.put, List.getElem_toArray, List.getElem_cons_zero, List.getElem_cons_succ, List.setIfInBounds_toArray, List.set_cons_zero, List.set_cons_succ])
  (refine anyM_take1 (i := 15) (v := ?_) rfl (by kernel_rfl) (by kernel_rfl) (by kernel_rfl) (fun _ _ _ h => h) (Or.inl ⟨by rfl, ?_⟩) hT ?_); rotate_left; (focus (intro w' hSw; obtain ⟨q1, q2, q3, q4, q5, q6, q7, q8, q9, q10, q11, q12, q13, q14⟩ := hSw; go_simp; (try with_reducible rfl))); (try simp only [Act.put, List.getElem_toArray, List.getElem_cons_zero, List.getElem_cons_succ, List.setIfInBounds_toArray, List.set_cons_zero, List.set_cons_succ])
  (refine anyM_take0 (i := 16) (v := ?_) rfl (by kernel_rfl) (by kernel_rfl) (by kernel_rfl) (fun _ _ _ h => h) (Or.inl ⟨by rfl, ?_⟩) ?_); rotate_left; (focus (intro w' hSw; go_simp; (try with_reducible rfl))); (try simp only [Act.put, List.getElem_toArray, List.getElem_cons_zero, List.getElem_cons_succ, List.setIfInBounds_toArray, List.set_cons_zero, List.set_cons_succ])
  (refine anyM_take1 (i := 17) (v := ?_) rfl (by kernel_rfl) (by kernel_rfl) (by kernel_rfl) (fun _ _ _ h => h) (Or.inl ⟨by rfl, ?_⟩) hT ?_); rotate_left; (focus (intro w' hSw; obtain ⟨q1, q2, q3, q4, q5, q6, q7, q8, q9, q10, q11, q12, q13, q14⟩ := hSw; go_simp; (try with_reducible rfl))); (try simp only [Act.put, List.getElem_toArray, List.getElem_cons_zero, List.getElem_cons_succ, List.setIfInBounds_toArray, List.set_cons_zero, List.set_cons_succ])
  (refine anyM_take0 (i := 18) (v := ?_) rfl (by kernel_rfl) (by kernel_rfl) (by kernel_rfl) (fun _ _ _ h => h) (Or.inl ⟨by rfl, ?_⟩) ?_); rotate_left; (focus (intro w' hSw; go_simp; (try with_reducible rfl))); (try simp only [Act.put, List.getElem_toArray, List.getElem_cons_zero, List.getElem_cons_succ, List.setIfInBounds_toArray, List.set_cons_zero, List.set_cons_succ])
  (refine anyM_take1 (i := 19) (v := ?_) rfl (by kernel_rfl) (by kernel_rfl) (by kernel_rfl) (fun _ _ _ h => h) (Or.inl ⟨by rfl, ?_⟩) hT ?_); rotate_left; (focus (intro w' hSw; obtain ⟨q1, q2, q3, q4, q5, q6, q7, q8, q9, q10, q11, q12, q13, q14⟩ := hSw; go_simp; (try with_reducible rfl))); (try simp only [Act.put, List.getElem_toArray, List.getElem_cons_zero, List.getElem_cons_succ, List.setIfInBounds_toArray, List.set_cons_zero, List.set_cons_succ])
  (refine anyM_take0 (i := 20) (v := ?_) rfl (by kernel_rfl) (by kernel_rfl) (by kernel_rfl) (fun _ _ _ h => h) (Or.inl ⟨by rfl, ?_⟩) ?_); rotate_left; (focus (intro w' hSw; go_simp; (try with_reducible rfl))); (try simp only [Act.put, List.getElem_toArray, List.getElem_cons_zero, List.getElem_cons_succ, List.setIfInBounds_toArray, List.set_cons_zero, List.set_cons_succ])
  clear hT
  refine anyM_cut (fun a0' a' w' => ∃ (a0 a1 : Int) (a3 : ByteArray) (a4 : Int) (g : Nat), w3.heap.size ≤ g ∧ a' = ((((a0'.put (some 165) (.tuple #[.agg #[.int .i64 a0, .int .i64 a1, .int .u64 0, .string a3, .int .i64 a4], .int .i64 ab])).put (some 143) (.tuple #[.agg #[.int .i64 a0, .int .i64 a1, .int .u64 0, .string a3, .int .i64 a4], .int .i64 ab])).put (some 166) (.agg #[.int .i64 a0, .int .i64 a1, .int .u64 0, .string a3, .int .i64 a4])).put (some 167) (.int .i64 ab)).put (some 17) (.pointer (some ⟨g, 0, none⟩)) ∧ w'.heap[g]? = some (.cells #[.int .i64 0, .int .i64 0, .int .u64 0, .string ⟨#[]⟩, .int .i64 0] 95 (0, 0)) ∧ Hid (∀ w6, Upd (fun k => k = g) w' w6 → Calls Tryz.prog 42 #[.pointer (some ⟨pb, 0, none⟩), .int .u64 av, .int .i64 ab, .agg #[.int .i64 a0, .int .i64 a1, .int .u64 0, .string a3, .int .i64 a4], .int .i64 ab] w6 (fun e w7 => e = .returned (.bool true) ∧ Goal w7))) 2 #[true, true, true, true, true, true, true, true, true, true, true, true, true, true, true, true, true, true, true, true, true, true, true, true, true, true, false, false] ?tail (fun TAIL => ?main)
  case tail =>
    rintro a' w5 ⟨a0, a1, a3, a4, g, hg0, rfl, g5, HG⟩
    (try simp only [Act.put, List.getElem_toArray, List.getElem_cons_zero, List.getElem_cons_succ, List.setIfInBounds_toArray, List.set_cons_zero, List.set_cons_succ])
    refine anyM_one (i := 26) (by kernel_rfl) rfl rfl (fun K hK => ?_)
    have d0 := fun j => cell_of_row w5 _ j _ _ _ g5
    have zR : ∀ j, w5.frozen? ⟨g, j, none⟩ = false := fun j => by simp only [World.frozen?, g5]; simp
    go_simp
    refine hK _ _ ⟨.inl rfl, fun hh => ⟨cell_keep hh.1 (five_far (gb := g) (k := pb) (by have := LT.out; omega) _ _ _ _ _), cell_keep hh.2.1 (five_far (gb := g) (k := pb) (by have := LT.out; omega) _ _ _ _ _), cell_keep hh.2.2.1 (five_far (gb := g) (k := b0) (by have := LT.out; omega) _ _ _ _ _), cell_keep hh.2.2.2.1 (five_far (gb := g) (k := gv) (by have := LT.out; omega) _ _ _ _ _), cell_keep hh.2.2.2.2.1 (five_far (gb := g) (k := gv) (by have := LT.out; omega) _ _ _ _ _), cell_keep hh.2.2.2.2.2.1 (five_far (gb := g) (k := gv) (by have := LT.out; omega) _ _ _ _ _), cell_keep hh.2.2.2.2.2.2.1 (five_far (gb := g) (k := gv) (by have := LT.out; omega) _ _ _ _ _), cell_keep hh.2.2.2.2.2.2.2.1 (five_far (gb := g) (k := gv) (by have := LT.out; omega) _ _ _ _ _), cell_keep hh.2.2.2.2.2.2.2.2.1 (five_far (gb := g) (k := b0) (by have := LT.out; omega) _ _ _ _ _), cell_keep hh.2.2.2.2.2.2.2.2.2.1 (five_far (gb := g) (k := gv) (by have := LT.out; omega) _ _ _ _ _), cell_keep hh.2.2.2.2.2.2.2.2.2.2.1 (five_far (gb := g) (k := gv) (by have := LT.out; omega) _ _ _ _ _), cell_keep hh.2.2.2.2.2.2.2.2.2.2.2.1 (five_far (gb := g) (k := gv) (by have := LT.out; omega) _ _ _ _ _), cell_keep hh.2.2.2.2.2.2.2.2.2.2.2.2.1 (five_far (gb := g) (k := gv) (by have := LT.out; omega) _ _ _ _ _), cell_keep hh.2.2.2.2.2.2.2.2.2.2.2.2.2 (five_far (gb := g) (k := gv) (by have := LT.out; omega) _ _ _ _ _)⟩⟩ ?_
    clear hK K d0 zR
    (try simp only [Act.put, List.getElem_toArray, List.getElem_cons_zero, List.getElem_cons_succ, List.setIfInBounds_toArray, List.set_cons_zero, List.set_cons_succ])
    refine anyM_one (i := 27) (by kernel_rfl) rfl rfl (fun K hK => ?_)
    go_simp
    refine hK _ _ ⟨.inr id, id⟩ ?_
    clear hK K
    (try simp only [Act.put, List.getElem_toArray, List.getElem_cons_zero, List.getElem_cons_succ, List.setIfInBounds_toArray, List.set_cons_zero, List.set_cons_succ])
    refine anyM_done (by kernel_rfl) ?_ _
    refine NoPanic.normal ?_
    have F5 := hid (five_set g5 (.int .i64 a0) (.int .i64 a1) (.int .u64 0) (.string a3) (.int .i64 a4))
    have us : ∀ {b : World}, Upd (fun k => k = g) w5 b → ∀ (o : Nat) (v : Value), Upd (fun k => k = g) w5 (b.setCell ⟨g, o, none⟩ v) := fun h o v => h.setCell (p := ⟨g, o, none⟩) (.inl rfl) v
    have cg := HG.out _ (us (us (us (us (us (Upd.refl _ w5) 0 (.int .i64 a0)) 1 (.int .i64 a1)) 2 (.int .u64 0)) 3 (.string a3)) 4 (.int .i64 a4))
    clear us HG g5
    generalize ((((w5.setCell ⟨g, 0, none⟩ (.int .i64 a0)).setCell ⟨g, 1, none⟩ (.int .i64 a1)).setCell ⟨g, 2, none⟩ (.int .u64 0)).setCell ⟨g, 3, none⟩ (.string a3)).setCell ⟨g, 4, none⟩ (.int .i64 a4) = w6 at *
    have f0 : w6.cell? ⟨g, 0, none⟩ = some (.int .i64 a0) := cell_of_row _ _ 0 _ _ _ F5.out
    have f1 : w6.cell? ⟨g, 1, none⟩ = some (.int .i64 a1) := cell_of_row _ _ 1 _ _ _ F5.out
    have f2 : w6.cell? ⟨g, 2, none⟩ = some (.int .u64 0) := cell_of_row _ _ 2 _ _ _ F5.out
    have f3 : w6.cell? ⟨g, 3, none⟩ = some (.string a3) := cell_of_row _ _ 3 _ _ _ F5.out
    have f4 : w6.cell? ⟨g, 4, none⟩ = some (.int .i64 a4) := cell_of_row _ _ 4 _ _ _ F5.out
    clear F5
    go_wp2_with (go_at_call 42; (with_reducible refine cg.mono ?_); rintro e w7 ⟨rfl, hgo⟩; clear cg)
    go_ret
    exact ⟨rfl, hgo⟩
  case main =>
    refine anyM_two (i := 21) (j := 25) (by kernel_rfl) rfl rfl rfl rfl (fun K hK => ?_) (fun K hK => ?_)
    · have cc := HM.out w3.drew ((Below.refl _ w3).drew)
      go_simp
      refine ⟨trivial, (callsIn_wide.2 cc).mono ?_⟩
      rintro e w4 ⟨a0, a1, a3, a4, rfl, hk4, hU4, hg4⟩
      refine hK _ _ ⟨.inl rfl, fun hh => ⟨cell_keep hh.1 (hk4 _ (.inl rfl)), cell_keep hh.2.1 (hk4 _ (.inl rfl)), cell_keep hh.2.2.1 (hk4 _ (.inr (.inl rfl))), cell_keep hh.2.2.2.1 (hk4 _ (.inr (.inr (.inr GV.out.2)))), cell_keep hh.2.2.2.2.1 (hk4 _ (.inr (.inr (.inr GV.out.2)))), cell_keep hh.2.2.2.2.2.1 (hk4 _ (.inr (.inr (.inr GV.out.2)))), cell_keep hh.2.2.2.2.2.2.1 (hk4 _ (.inr (.inr (.inr GV.out.2)))), cell_keep hh.2.2.2.2.2.2.2.1 (hk4 _ (.inr (.inr (.inr GV.out.2)))), cell_keep hh.2.2.2.2.2.2.2.2.1 (hk4 _ (.inr (.inl rfl))), cell_keep hh.2.2.2.2.2.2.2.2.2.1 (hk4 _ (.inr (.inr (.inr GV.out.2)))), cell_keep hh.2.2.2.2.2.2.2.2.2.2.1 (hk4 _ (.inr (.inr (.inr GV.out.2)))), cell_keep hh.2.2.2.2.2.2.2.2.2.2.2.1 (hk4 _ (.inr (.inr (.inr GV.out.2)))), cell_keep hh.2.2.2.2.2.2.2.2.2.2.2.2.1 (hk4 _ (.inr (.inr (.inr GV.out.2)))), cell_keep hh.2.2.2.2.2.2.2.2.2.2.2.2.2 (hk4 _ (.inr (.inr (.inr GV.out.2))))⟩⟩ ?_
      clear hK K cc
      (try simp only [Act.put, List.getElem_toArray, List.getElem_cons_zero, List.getElem_cons_succ, List.setIfInBounds_toArray, List.set_cons_zero, List.set_cons_succ])
      (refine anyM_take0 (i := 22) (v := ?_) rfl (by kernel_rfl) (by kernel_rfl) (by kernel_rfl) (fun _ _ _ h => h) (Or.inl ⟨by rfl, ?_⟩) ?_); rotate_left; (focus (intro w' hSw; go_simp; (try with_reducible rfl))); (try simp only [Act.put, List.getElem_toArray, List.getElem_cons_zero, List.getElem_cons_succ, List.setIfInBounds_toArray, List.set_cons_zero, List.set_cons_succ])
      (refine anyM_take0 (i := 23) (v := ?_) rfl (by kernel_rfl) (by kernel_rfl) (by kernel_rfl) (fun _ _ _ h => h) (Or.inl ⟨by rfl, ?_⟩) ?_); rotate_left; (focus (intro w' hSw; go_simp; (try with_reducible rfl))); (try simp only [Act.put, List.getElem_toArray, List.getElem_cons_zero, List.getElem_cons_succ, List.setIfInBounds_toArray, List.set_cons_zero, List.set_cons_succ])
      (refine anyM_take0 (i := 24) (v := ?_) rfl (by kernel_rfl) (by kernel_rfl) (by kernel_rfl) (fun _ _ _ h => h) (Or.inl ⟨by rfl, ?_⟩) ?_); rotate_left; (focus (intro w' hSw; go_simp; (try with_reducible rfl))); (try simp only [Act.put, List.getElem_toArray, List.getElem_cons_zero, List.getElem_cons_succ, List.setIfInBounds_toArray, List.set_cons_zero, List.set_cons_succ])
      refine anyM_one (i := 25) (by kernel_rfl) rfl rfl (fun K hK => ?_)
      go_simp
      have Z4 : w3.heap.size ≤ w4.heap.size := hU4.size
      have hBa : Below w4.heap.size w4 (w4.alloc (.cells #[.int .i64 0, .int .i64 0, .int .u64 0, .string ⟨#[]⟩, .int .i64 0] 95)) := (Below.refl _ w4).alloc (Nat.le_refl _) _
      refine hK _ _ ⟨.inr (fun _ => trivial), fun hh => ⟨below_cell hBa hh.1, below_cell hBa hh.2.1, below_cell hBa hh.2.2.1, below_cell hBa hh.2.2.2.1, below_cell hBa hh.2.2.2.2.1, below_cell hBa hh.2.2.2.2.2.1, below_cell hBa hh.2.2.2.2.2.2.1, below_cell hBa hh.2.2.2.2.2.2.2.1, below_cell hBa hh.2.2.2.2.2.2.2.2.1, below_cell hBa hh.2.2.2.2.2.2.2.2.2.1, below_cell hBa hh.2.2.2.2.2.2.2.2.2.2.1, below_cell hBa hh.2.2.2.2.2.2.2.2.2.2.2.1, below_cell hBa hh.2.2.2.2.2.2.2.2.2.2.2.2.1, below_cell hBa hh.2.2.2.2.2.2.2.2.2.2.2.2.2⟩⟩ ?_
      clear hK K
      (try simp only [Act.put, List.getElem_toArray, List.getElem_cons_zero, List.getElem_cons_succ, List.setIfInBounds_toArray, List.set_cons_zero, List.set_cons_succ])
      refine anyM_same (by kernel_rfl) ?_ (TAIL _ _ ⟨a0, a1, a3, a4, w4.heap.size, Z4, rfl, World.alloc_heap_new w4 (.cells #[.int .i64 0, .int .i64 0, .int .u64 0, .string ⟨#[]⟩, .int .i64 0] 95), hid (fun w6 hU => hg4 w6 (alloc_then hU))⟩)
      (try simp only [Act.put, List.getElem_toArray, List.getElem_cons_zero, List.getElem_cons_succ, List.setIfInBounds_toArray, List.set_cons_zero, List.set_cons_succ])
    · go_simp
      have hBa : Below w3.heap.size w3 (w3.alloc (.cells #[.int .i64 0, .int .i64 0, .int .u64 0, .string ⟨#[]⟩, .int .i64 0] 95)).drew := ((Below.refl _ w3).alloc (Nat.le_refl _) _).drew
      have ga : (w3.alloc (.cells #[.int .i64 0, .int .i64 0, .int .u64 0, .string ⟨#[]⟩, .int .i64 0] 95)).drew.heap[w3.heap.size]? = some (.cells #[.int .i64 0, .int .i64 0, .int .u64 0, .string ⟨#[]⟩, .int .i64 0] 95 (0, 0)) := World.alloc_heap_new w3 (.cells #[.int .i64 0, .int .i64 0, .int .u64 0, .string ⟨#[]⟩, .int .i64 0] 95)
      have za : (w3.alloc (.cells #[.int .i64 0, .int .i64 0, .int .u64 0, .string ⟨#[]⟩, .int .i64 0] 95)).drew.heap.size = w3.heap.size + 1 := World.size_alloc w3 _
      refine hK _ _ ⟨.inr (fun _ => trivial), fun hh => ⟨below_cell hBa hh.1, below_cell hBa hh.2.1, below_cell hBa hh.2.2.1, below_cell hBa hh.2.2.2.1, below_cell hBa hh.2.2.2.2.1, below_cell hBa hh.2.2.2.2.2.1, below_cell hBa hh.2.2.2.2.2.2.1, below_cell hBa hh.2.2.2.2.2.2.2.1, below_cell hBa hh.2.2.2.2.2.2.2.2.1, below_cell hBa hh.2.2.2.2.2.2.2.2.2.1, below_cell hBa hh.2.2.2.2.2.2.2.2.2.2.1, below_cell hBa hh.2.2.2.2.2.2.2.2.2.2.2.1, below_cell hBa hh.2.2.2.2.2.2.2.2.2.2.2.2.1, below_cell hBa hh.2.2.2.2.2.2.2.2.2.2.2.2.2⟩⟩ ?_
      clear hK K
      (try simp only [Act.put, List.getElem_toArray, List.getElem_cons_zero, List.getElem_cons_succ, List.setIfInBounds_toArray, List.set_cons_zero, List.set_cons_succ])
      have cc := HM.out _ hBa
      generalize (w3.alloc (.cells #[.int .i64 0, .int .i64 0, .int .u64 0, .string ⟨#[]⟩, .int .i64 0] 95)).drew = wa at *
      have ZA := hid za
      clear za
      refine anyM_one (i := 21) (by kernel_rfl) rfl rfl (fun K hK => ?_)
      go_simp
      refine ⟨trivial, (callsIn_wide.2 cc).mono ?_⟩
      rintro e w4 ⟨a0, a1, a3, a4, rfl, hk4, hU4, hg4⟩
      refine hK _ _ ⟨.inl rfl, fun hh => ⟨cell_keep hh.1 (hk4 _ (.inl rfl)), cell_keep hh.2.1 (hk4 _ (.inl rfl)), cell_keep hh.2.2.1 (hk4 _ (.inr (.inl rfl))), cell_keep hh.2.2.2.1 (hk4 _ (.inr (.inr (.inr GV.out.2)))), cell_keep hh.2.2.2.2.1 (hk4 _ (.inr (.inr (.inr GV.out.2)))), cell_keep hh.2.2.2.2.2.1 (hk4 _ (.inr (.inr (.inr GV.out.2)))), cell_keep hh.2.2.2.2.2.2.1 (hk4 _ (.inr (.inr (.inr GV.out.2)))), cell_keep hh.2.2.2.2.2.2.2.1 (hk4 _ (.inr (.inr (.inr GV.out.2)))), cell_keep hh.2.2.2.2.2.2.2.2.1 (hk4 _ (.inr (.inl rfl))), cell_keep hh.2.2.2.2.2.2.2.2.2.1 (hk4 _ (.inr (.inr (.inr GV.out.2)))), cell_keep hh.2.2.2.2.2.2.2.2.2.2.1 (hk4 _ (.inr (.inr (.inr GV.out.2)))), cell_keep hh.2.2.2.2.2.2.2.2.2.2.2.1 (hk4 _ (.inr (.inr (.inr GV.out.2)))), cell_keep hh.2.2.2.2.2.2.2.2.2.2.2.2.1 (hk4 _ (.inr (.inr (.inr GV.out.2)))), cell_keep hh.2.2.2.2.2.2.2.2.2.2.2.2.2 (hk4 _ (.inr (.inr (.inr GV.out.2))))⟩⟩ ?_
      clear hK K cc
      (try simp only [Act.put, List.getElem_toArray, List.getElem_cons_zero, List.getElem_cons_succ, List.setIfInBounds_toArray, List.set_cons_zero, List.set_cons_succ])
      (refine anyM_take0 (i := 22) (v := ?_) rfl (by kernel_rfl) (by kernel_rfl) (by kernel_rfl) (fun _ _ _ h => h) (Or.inl ⟨by rfl, ?_⟩) ?_); rotate_left; (focus (intro w' hSw; go_simp; (try with_reducible rfl))); (try simp only [Act.put, List.getElem_toArray, List.getElem_cons_zero, List.getElem_cons_succ, List.setIfInBounds_toArray, List.set_cons_zero, List.set_cons_succ])
      (refine anyM_take0 (i := 23) (v := ?_) rfl (by kernel_rfl) (by kernel_rfl) (by kernel_rfl) (fun _ _ _ h => h) (Or.inl ⟨by rfl, ?_⟩) ?_); rotate_left; (focus (intro w' hSw; go_simp; (try with_reducible rfl))); (try simp only [Act.put, List.getElem_toArray, List.getElem_cons_zero, List.getElem_cons_succ, List.setIfInBounds_toArray, List.set_cons_zero, List.set_cons_succ])
      (refine anyM_take0 (i := 24) (v := ?_) rfl (by kernel_rfl) (by kernel_rfl) (by kernel_rfl) (fun _ _ _ h => h) (Or.inl ⟨by rfl, ?_⟩) ?_); rotate_left; (focus (intro w' hSw; go_simp; (try with_reducible rfl))); (try simp only [Act.put, List.getElem_toArray, List.getElem_cons_zero, List.getElem_cons_succ, List.setIfInBounds_toArray, List.set_cons_zero, List.set_cons_succ])
      refine anyM_same (by kernel_rfl) ?_ (TAIL _ _ ⟨a0, a1, a3, a4, w3.heap.size, Nat.le_refl _, rfl, (hU4.block _ (by have := ZA.out; omega) (by omega)).trans ga, hid (fun w6 hU => hg4 w6 (hU.mono (fun k e => ⟨by omega, by have := ZA.out; omega⟩)))⟩)
      (try simp only [Act.put, List.getElem_toArray, List.getElem_cons_zero, List.getElem_cons_succ, List.setIfInBounds_toArray, List.set_cons_zero, List.set_cons_succ])
end
end Go.Proofs.YtndkfjoaiinjoaaGreat.W
