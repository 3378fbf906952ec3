import Derived.Test.YtndkfjoaiinjoaaGreatBase41
/- TextPlays: act, where a whole number is made. -/
namespace Go.Proofs.YtndkfjoaiinjoaaGreat.W
open Go.ChangeShapes Go.WideShapes Go.RowKit Go.Shelf Si
set_option linter.unusedVariables false
set_option linter.unusedSimpArgs false
section
variable {W W' : World} {pb hb rb : Nat} {lv wv vv : Value} {room : Nat} {L : List Rc} {ws : List Nat} {vs : List Tv}
set_option maxRecDepth 100000 in
set_option maxHeartbeats 4000000 in
theorem act_two (h : Tpl W pb hb rb lv wv vv room L ws vs) (x : A8) (hx : x.wf W) (hl : x.l ≤ 1100000) (hw : x.what = 2) (Goal : World → Prop)
    (c1 : ∀ w2 v1 v2, Below W.heap.size W w2 → Two (W.alloc (.cells #[.int .i64 x.what, .string x.text, .int .i64 x.int, .int .i64 x.i, .int .i64 x.k, .int .i64 x.a, .int .i64 x.b, .slice x.o x.l x.c] 62)).heap.size w2 v1 v2 (wsel ws (rsel L vs x.N x.l)) (vsel vs (rsel L vs x.N x.l)) → W.heap.size < w2.heap.size → Asked 16 #[.pointer (some ⟨hb, 0, none⟩), .agg #[.int .i64 2, .int .i64 x.int, .int .u64 0, .string ⟨#[]⟩, .int .u64 0], v1] 43 #[.pointer (some ⟨rb, 0, none⟩), .int .i64 x.int, v2] pb (fun k => k = pb ∨ k = W.heap.size ∨ wv.ownBlock = some k ∨ vv.ownBlock = some k) Goal w2.drew) :
    Calls Tryz.prog 18 #[.pointer (some ⟨pb, 0, none⟩), .agg #[.int .i64 x.what, .string x.text, .int .i64 x.int, .int .i64 x.i, .int .i64 x.k, .int .i64 x.a, .int .i64 x.b, .slice x.o x.l x.c]] W fun e w' => e = .returned (.bool true) ∧ Goal w' := by
  have hB1 : Below W.heap.size W (W.alloc (.cells #[.int .i64 x.what, .string x.text, .int .i64 x.int, .int .i64 x.i, .int .i64 x.k, .int .i64 x.a, .int .i64 x.b, .slice x.o x.l x.c] 62)) := (Below.refl _ W).alloc (Nat.le_refl _) _
  have hN1 := World.alloc_heap_new W (.cells #[.int .i64 x.what, .string x.text, .int .i64 x.int, .int .i64 x.i, .int .i64 x.k, .int .i64 x.a, .int .i64 x.b, .slice x.o x.l x.c] 62)
  have hz1 : (W.alloc (.cells #[.int .i64 x.what, .string x.text, .int .i64 x.int, .int .i64 x.i, .int .i64 x.k, .int .i64 x.a, .int .i64 x.b, .slice x.o x.l x.c] 62)).heap.size = W.heap.size + 1 := World.size_alloc ..
  have hw7 : ∀ j, j < x.l → ∃ a, x.o = some a ∧ (W.alloc (.cells #[.int .i64 x.what, .string x.text, .int .i64 x.int, .int .i64 x.i, .int .i64 x.k, .int .i64 x.a, .int .i64 x.b, .slice x.o x.l x.c] 62)).cell? (a.add j) = some (.int .i64 (x.N j)) := fun j hj => by
    obtain ⟨a, h1, h2⟩ := hx.2.2.2.2.2.2 j hj
    exact ⟨a, h1, below_cell hB1 h2⟩
  have cr := roots_c (h.below hB1) x.o x.l x.c x.N hw7 hl
  have GG := hid (show ∀ w, Below (W.alloc (.cells #[.int .i64 x.what, .string x.text, .int .i64 x.int, .int .i64 x.i, .int .i64 x.k, .int .i64 x.a, .int .i64 x.b, .slice x.o x.l x.c] 62)).heap.size (W.alloc (.cells #[.int .i64 x.what, .string x.text, .int .i64 x.int, .int .i64 x.i, .int .i64 x.k, .int .i64 x.a, .int .i64 x.b, .slice x.o x.l x.c] 62)) w → Below W.heap.size W w ∧ w.heap[W.heap.size]? = some (.cells #[.int .i64 x.what, .string x.text, .int .i64 x.int, .int .i64 x.i, .int .i64 x.k, .int .i64 x.a, .int .i64 x.b, .slice x.o x.l x.c] 62 (0, 0)) ∧ w.heap[pb]? = some (.cells #[.pointer (some ⟨hb, 0, none⟩), .pointer (some ⟨rb, 0, none⟩), wv, vv] 59 (0, 0)) from fun w hw => ⟨hB1.trans (hw.mono hB1.size), (hw.block _ (by omega)).trans hN1, ((hB1.trans (hw.mono hB1.size)).block _ (h.lt pb (.inl rfl))).trans h.blk⟩)
  have c7 : (W.alloc (.cells #[.int .i64 x.what, .string x.text, .int .i64 x.int, .int .i64 x.i, .int .i64 x.k, .int .i64 x.a, .int .i64 x.b, .slice x.o x.l x.c] 62)).cell? ⟨W.heap.size, 7, none⟩ = some (.slice x.o x.l x.c) := cell_of_row _ _ 7 _ _ _ hN1
  have C1 := hid c1
  clear hw7 hx hl hN1 hz1 hB1 h c1
  obtain ⟨xw, xt, xi, xI, xk, xa, xb, xo, xl, xc, xN⟩ := x
  simp only at *
  subst hw
  go_enter Tryz.func18, Tryz.ntmps18
  go_upto_region 1 with fail
  generalize W.alloc (.cells #[.int .i64 2, .string xt, .int .i64 xi, .int .i64 xI, .int .i64 xk, .int .i64 xa, .int .i64 xb, .slice xo xl xc] 62) = W1 at *
  go_upto_region 2 with (go_at_call 40; (with_reducible refine cr.mono ?_); rintro e w2 ⟨v1, v2, rfl, hB2, h2⟩; clear cr)
  obtain ⟨hBW, g2, g3⟩ := GG.out w2 hB2
  have e0 : w2.cell? ⟨W.heap.size, 0, none⟩ = some (.int .i64 2) := cell_of_row _ _ 0 _ _ _ g2
  have CC := hid (C1.out w2 v1 v2 hBW h2 (Array.getElem?_eq_some_iff.1 g2).1)
  unfold Asked at CC
  have G2 := hid g2
  have G3 := hid g3
  generalize W.heap.size = b0 at *
  have HS1 := hid (show w2.drew.cell? ⟨pb, 0, none⟩ = some (.pointer (some ⟨hb, 0, none⟩)) ∧ w2.drew.cell? ⟨b0, 2, none⟩ = some (.int .i64 xi) from ⟨cell_of_row w2 _ 0 _ _ _ G3.out, cell_of_row w2 _ 2 _ _ _ G2.out⟩)
  clear c7 g2 g3 hB2 GG C1 hBW h2
  go_upto_region 8 with fail
  refine wp_region_noPanic ?_
  refine plain_anyM (z := [8]) (S := fun _ => True) (T := fun w' => w'.cell? ⟨pb, 0, none⟩ = some (.pointer (some ⟨hb, 0, none⟩)) ∧ w'.cell? ⟨b0, 2, none⟩ = some (.int .i64 xi)) (by kernel_rfl) ?_
  have hT := HS1.out
  (refine anyM_take0 (i := 0) (v := ?_) rfl (by kernel_rfl) (by kernel_rfl) (by kernel_rfl) (fun _ _ _ h => h) (Or.inl ⟨by rfl, ?_⟩) ?_); rotate_left; (focus (intro w' hSw; go_simp; (try with_reducible rfl))); (try simp only [Act.put, List.getElem_toArray, List.getElem_cons_zero, List.getElem_cons_succ, List.setIfInBounds_toArray, List.set_cons_zero, List.set_cons_succ])
  (refine anyM_take0 (i := 1) (v := ?_) rfl (by kernel_rfl) (by kernel_rfl) (by kernel_rfl) (fun _ _ _ h => h) (Or.inl ⟨by rfl, ?_⟩) ?_); rotate_left; (focus (intro w' hSw; go_simp; (try with_reducible rfl))); (try simp only [Act.put, List.getElem_toArray, List.getElem_cons_zero, List.getElem_cons_succ, List.setIfInBounds_toArray, List.set_cons_zero, List.set_cons_succ])
  (refine anyM_take0 (i := 2) (v := ?_) rfl (by kernel_rfl) (by kernel_rfl) (by kernel_rfl) (fun _ _ _ h => h) (Or.inl ⟨by rfl, ?_⟩) ?_); rotate_left; (focus (intro w' hSw; go_simp; (try with_reducible rfl))); (try simp only [Act.put, List.getElem_toArray, List.getElem_cons_zero, List.getElem_cons_succ, List.setIfInBounds_toArray, List.set_cons_zero, List.set_cons_succ])
  (refine anyM_take1 (i := 3) (v := ?_) rfl (by kernel_rfl) (by kernel_rfl) (by kernel_rfl) (fun _ _ _ h => h) (Or.inl ⟨by rfl, ?_⟩) hT ?_); rotate_left; (focus (intro w' hSw; obtain ⟨q1, q2⟩ := hSw; go_simp; (try with_reducible rfl))); (try simp only [Act.put, List.getElem_toArray, List.getElem_cons_zero, List.getElem_cons_succ, List.setIfInBounds_toArray, List.set_cons_zero, List.set_cons_succ])
  (refine anyM_take0 (i := 4) (v := ?_) rfl (by kernel_rfl) (by kernel_rfl) (by kernel_rfl) (fun _ _ _ h => h) (Or.inl ⟨by rfl, ?_⟩) ?_); rotate_left; (focus (intro w' hSw; go_simp; (try with_reducible rfl))); (try simp only [Act.put, List.getElem_toArray, List.getElem_cons_zero, List.getElem_cons_succ, List.setIfInBounds_toArray, List.set_cons_zero, List.set_cons_succ])
  (refine anyM_take1 (i := 5) (v := ?_) rfl (by kernel_rfl) (by kernel_rfl) (by kernel_rfl) (fun _ _ _ h => h) (Or.inl ⟨by rfl, ?_⟩) hT ?_); rotate_left; (focus (intro w' hSw; obtain ⟨q1, q2⟩ := hSw; go_simp; (try with_reducible rfl))); (try simp only [Act.put, List.getElem_toArray, List.getElem_cons_zero, List.getElem_cons_succ, List.setIfInBounds_toArray, List.set_cons_zero, List.set_cons_succ])
  (refine anyM_take0 (i := 6) (v := ?_) rfl (by kernel_rfl) (by kernel_rfl) (by kernel_rfl) (fun _ _ _ h => h) (Or.inl ⟨by rfl, ?_⟩) ?_); rotate_left; (focus (intro w' hSw; go_simp; (try with_reducible rfl))); (try simp only [Act.put, List.getElem_toArray, List.getElem_cons_zero, List.getElem_cons_succ, List.setIfInBounds_toArray, List.set_cons_zero, List.set_cons_succ])
  (refine anyM_take0 (i := 7) (v := ?_) rfl (by kernel_rfl) (by kernel_rfl) (by kernel_rfl) (fun _ _ _ h => h) (Or.inl ⟨by rfl, ?_⟩) ?_); rotate_left; (focus (intro w' hSw; go_simp; (try with_reducible rfl))); (try simp only [Act.put, List.getElem_toArray, List.getElem_cons_zero, List.getElem_cons_succ, List.setIfInBounds_toArray, List.set_cons_zero, List.set_cons_succ])
  clear hT
  have cc := CC.out
  refine anyM_one (i := 8) (by kernel_rfl) rfl rfl (fun K hK => ?_)
  go_simp
  refine ⟨trivial, (callsIn_wide.2 cc).mono ?_⟩
  rintro e w3 ⟨av, ab, rfl, hk3, hm⟩
  refine hK _ _ ⟨.inl rfl, fun hh => ⟨cell_keep hh.1 (hk3 _ (.inl rfl)), cell_keep hh.2 (hk3 _ (.inr (.inl rfl)))⟩⟩ ?_
  clear hK K cc
  (try simp only [Act.put, List.getElem_toArray, List.getElem_cons_zero, List.getElem_cons_succ, List.setIfInBounds_toArray, List.set_cons_zero, List.set_cons_succ])
  (refine anyM_take0 (i := 9) (v := ?_) rfl (by kernel_rfl) (by kernel_rfl) (by kernel_rfl) (fun _ _ _ h => h) (Or.inl ⟨by rfl, ?_⟩) ?_); rotate_left; (focus (intro w' hSw; go_simp; (try with_reducible rfl))); (try simp only [Act.put, List.getElem_toArray, List.getElem_cons_zero, List.getElem_cons_succ, List.setIfInBounds_toArray, List.set_cons_zero, List.set_cons_succ])
  (refine anyM_take0 (i := 10) (v := ?_) rfl (by kernel_rfl) (by kernel_rfl) (by kernel_rfl) (fun _ _ _ h => h) (Or.inl ⟨by rfl, ?_⟩) ?_); rotate_left; (focus (intro w' hSw; go_simp; (try with_reducible rfl))); (try simp only [Act.put, List.getElem_toArray, List.getElem_cons_zero, List.getElem_cons_succ, List.setIfInBounds_toArray, List.set_cons_zero, List.set_cons_succ])
  (refine anyM_take0 (i := 11) (v := ?_) rfl (by kernel_rfl) (by kernel_rfl) (by kernel_rfl) (fun _ _ _ h => h) (Or.inl ⟨by rfl, ?_⟩) ?_); rotate_left; (focus (intro w' hSw; go_simp; (try with_reducible rfl))); (try simp only [Act.put, List.getElem_toArray, List.getElem_cons_zero, List.getElem_cons_succ, List.setIfInBounds_toArray, List.set_cons_zero, List.set_cons_succ])
  (refine anyM_take0 (i := 12) (v := ?_) rfl (by kernel_rfl) (by kernel_rfl) (by kernel_rfl) (fun _ _ _ h => h) (Or.inl ⟨by rfl, ?_⟩) ?_); rotate_left; (focus (intro w' hSw; go_simp; (try with_reducible rfl))); (try simp only [Act.put, List.getElem_toArray, List.getElem_cons_zero, List.getElem_cons_succ, List.setIfInBounds_toArray, List.set_cons_zero, List.set_cons_succ])
  (refine anyM_take0 (i := 13) (v := ?_) rfl (by kernel_rfl) (by kernel_rfl) (by kernel_rfl) (fun _ _ _ h => h) (Or.inl ⟨by rfl, ?_⟩) ?_); rotate_left; (focus (intro w' hSw; go_simp; (try with_reducible rfl))); (try simp only [Act.put, List.getElem_toArray, List.getElem_cons_zero, List.getElem_cons_succ, List.setIfInBounds_toArray, List.set_cons_zero, List.set_cons_succ])
  refine anyM_done (by kernel_rfl) ?_ _
  refine NoPanic.normal ?_
  have HM := hid hm
  have HK3 := hid hk3
  clear hm hk3
  have k1 := (HK3.out pb (.inl rfl)).trans G3.out
  have k2 := (HK3.out b0 (.inr (.inl rfl))).trans G2.out
  have HS2 := hid (show w3.drew.cell? ⟨pb, 1, none⟩ = some (.pointer (some ⟨rb, 0, none⟩)) ∧ w3.drew.cell? ⟨b0, 2, none⟩ = some (.int .i64 xi) from ⟨cell_of_row w3 _ 1 _ _ _ k1, cell_of_row w3 _ 2 _ _ _ k2⟩)
  have LT := hid (show pb < w3.heap.size ∧ b0 < w3.heap.size from ⟨(Array.getElem?_eq_some_iff.1 k1).1, (Array.getElem?_eq_some_iff.1 k2).1⟩)
  clear k1 k2 HK3 G2 G3 HS1 CC e0
  go_upto_region 9 with fail
  refine wp_region_noPanic ?_
  refine plain_anyM (z := [7, 12]) (S := fun _ => True) (T := fun w' => w'.cell? ⟨pb, 1, none⟩ = some (.pointer (some ⟨rb, 0, none⟩)) ∧ w'.cell? ⟨b0, 2, none⟩ = some (.int .i64 xi)) (by kernel_rfl) ?_
  have hT := HS2.out
  (refine anyM_take0 (i := 0) (v := ?_) rfl (by kernel_rfl) (by kernel_rfl) (by kernel_rfl) (fun _ _ _ h => h) (Or.inl ⟨by rfl, ?_⟩) ?_); rotate_left; (focus (intro w' hSw; go_simp; (try with_reducible rfl))); (try simp only [Act.put, List.getElem_toArray, List.getElem_cons_zero, List.getElem_cons_succ, List.setIfInBounds_toArray, List.set_cons_zero, List.set_cons_succ])
  (refine anyM_take0 (i := 1) (v := ?_) rfl (by kernel_rfl) (by kernel_rfl) (by kernel_rfl) (fun _ _ _ h => h) (Or.inl ⟨by rfl, ?_⟩) ?_); rotate_left; (focus (intro w' hSw; go_simp; (try with_reducible rfl))); (try simp only [Act.put, List.getElem_toArray, List.getElem_cons_zero, List.getElem_cons_succ, List.setIfInBounds_toArray, List.set_cons_zero, List.set_cons_succ])
  (refine anyM_take0 (i := 2) (v := ?_) rfl (by kernel_rfl) (by kernel_rfl) (by kernel_rfl) (fun _ _ _ h => h) (Or.inl ⟨by rfl, ?_⟩) ?_); rotate_left; (focus (intro w' hSw; go_simp; (try with_reducible rfl))); (try simp only [Act.put, List.getElem_toArray, List.getElem_cons_zero, List.getElem_cons_succ, List.setIfInBounds_toArray, List.set_cons_zero, List.set_cons_succ])
  (refine anyM_take1 (i := 3) (v := ?_) rfl (by kernel_rfl) (by kernel_rfl) (by kernel_rfl) (fun _ _ _ h => h) (Or.inl ⟨by rfl, ?_⟩) hT ?_); rotate_left; (focus (intro w' hSw; obtain ⟨q1, q2⟩ := hSw; go_simp; (try with_reducible rfl))); (try simp only [Act.put, List.getElem_toArray, List.getElem_cons_zero, List.getElem_cons_succ, List.setIfInBounds_toArray, List.set_cons_zero, List.set_cons_succ])
  (refine anyM_take0 (i := 4) (v := ?_) rfl (by kernel_rfl) (by kernel_rfl) (by kernel_rfl) (fun _ _ _ h => h) (Or.inl ⟨by rfl, ?_⟩) ?_); rotate_left; (focus (intro w' hSw; go_simp; (try with_reducible rfl))); (try simp only [Act.put, List.getElem_toArray, List.getElem_cons_zero, List.getElem_cons_succ, List.setIfInBounds_toArray, List.set_cons_zero, List.set_cons_succ])
  (refine anyM_take1 (i := 5) (v := ?_) rfl (by kernel_rfl) (by kernel_rfl) (by kernel_rfl) (fun _ _ _ h => h) (Or.inl ⟨by rfl, ?_⟩) hT ?_); rotate_left; (focus (intro w' hSw; obtain ⟨q1, q2⟩ := hSw; go_simp; (try with_reducible rfl))); (try simp only [Act.put, List.getElem_toArray, List.getElem_cons_zero, List.getElem_cons_succ, List.setIfInBounds_toArray, List.set_cons_zero, List.set_cons_succ])
  (refine anyM_take0 (i := 6) (v := ?_) rfl (by kernel_rfl) (by kernel_rfl) (by kernel_rfl) (fun _ _ _ h => h) (Or.inl ⟨by rfl, ?_⟩) ?_); rotate_left; (focus (intro w' hSw; go_simp; (try with_reducible rfl))); (try simp only [Act.put, List.getElem_toArray, List.getElem_cons_zero, List.getElem_cons_succ, List.setIfInBounds_toArray, List.set_cons_zero, List.set_cons_succ])
  clear hT
  refine anyM_cut (fun a0' a' w' => ∃ (a0 a1 : Int) (a3 : ByteArray) (a4 : Int) (g : Nat), w3.heap.size ≤ g ∧ a' = ((((a0'.put (some 93) (.tuple #[.agg #[.int .i64 a0, .int .i64 a1, .int .u64 0, .string a3, .int .i64 a4], .int .i64 ab])).put (some 85) (.tuple #[.agg #[.int .i64 a0, .int .i64 a1, .int .u64 0, .string a3, .int .i64 a4], .int .i64 ab])).put (some 94) (.agg #[.int .i64 a0, .int .i64 a1, .int .u64 0, .string a3, .int .i64 a4])).put (some 95) (.int .i64 ab)).put (some 13) (.pointer (some ⟨g, 0, none⟩)) ∧ w'.heap[g]? = some (.cells #[.int .i64 0, .int .i64 0, .int .u64 0, .string ⟨#[]⟩, .int .i64 0] 95 (0, 0)) ∧ Hid (∀ w6, Upd (fun k => k = g) w' w6 → Calls Tryz.prog 42 #[.pointer (some ⟨pb, 0, none⟩), .int .u64 av, .int .i64 ab, .agg #[.int .i64 a0, .int .i64 a1, .int .u64 0, .string a3, .int .i64 a4], .int .i64 ab] w6 (fun e w7 => e = .returned (.bool true) ∧ Goal w7))) 2 #[true, true, true, true, true, true, true, true, true, true, true, true, false, false] ?tail (fun TAIL => ?main)
  case tail =>
    rintro a' w5 ⟨a0, a1, a3, a4, g, hg0, rfl, g5, HG⟩
    (try simp only [Act.put, List.getElem_toArray, List.getElem_cons_zero, List.getElem_cons_succ, List.setIfInBounds_toArray, List.set_cons_zero, List.set_cons_succ])
    refine anyM_one (i := 12) (by kernel_rfl) rfl rfl (fun K hK => ?_)
    have d0 := fun j => cell_of_row w5 _ j _ _ _ g5
    have zR : ∀ j, w5.frozen? ⟨g, j, none⟩ = false := fun j => by simp only [World.frozen?, g5]; simp
    go_simp
    refine hK _ _ ⟨.inl rfl, fun hh => ⟨cell_keep hh.1 (five_far (gb := g) (k := pb) (by have := LT.out; omega) _ _ _ _ _), cell_keep hh.2 (five_far (gb := g) (k := b0) (by have := LT.out; omega) _ _ _ _ _)⟩⟩ ?_
    clear hK K d0 zR
    (try simp only [Act.put, List.getElem_toArray, List.getElem_cons_zero, List.getElem_cons_succ, List.setIfInBounds_toArray, List.set_cons_zero, List.set_cons_succ])
    refine anyM_one (i := 13) (by kernel_rfl) rfl rfl (fun K hK => ?_)
    go_simp
    refine hK _ _ ⟨.inr id, id⟩ ?_
    clear hK K
    (try simp only [Act.put, List.getElem_toArray, List.getElem_cons_zero, List.getElem_cons_succ, List.setIfInBounds_toArray, List.set_cons_zero, List.set_cons_succ])
    refine anyM_done (by kernel_rfl) ?_ _
    refine NoPanic.normal ?_
    have F5 := hid (five_set g5 (.int .i64 a0) (.int .i64 a1) (.int .u64 0) (.string a3) (.int .i64 a4))
    have us : ∀ {b : World}, Upd (fun k => k = g) w5 b → ∀ (o : Nat) (v : Value), Upd (fun k => k = g) w5 (b.setCell ⟨g, o, none⟩ v) := fun h o v => h.setCell (p := ⟨g, o, none⟩) (.inl rfl) v
    have cg := HG.out _ (us (us (us (us (us (Upd.refl _ w5) 0 (.int .i64 a0)) 1 (.int .i64 a1)) 2 (.int .u64 0)) 3 (.string a3)) 4 (.int .i64 a4))
    clear us HG g5
    generalize ((((w5.setCell ⟨g, 0, none⟩ (.int .i64 a0)).setCell ⟨g, 1, none⟩ (.int .i64 a1)).setCell ⟨g, 2, none⟩ (.int .u64 0)).setCell ⟨g, 3, none⟩ (.string a3)).setCell ⟨g, 4, none⟩ (.int .i64 a4) = w6 at *
    have f0 : w6.cell? ⟨g, 0, none⟩ = some (.int .i64 a0) := cell_of_row _ _ 0 _ _ _ F5.out
    have f1 : w6.cell? ⟨g, 1, none⟩ = some (.int .i64 a1) := cell_of_row _ _ 1 _ _ _ F5.out
    have f2 : w6.cell? ⟨g, 2, none⟩ = some (.int .u64 0) := cell_of_row _ _ 2 _ _ _ F5.out
    have f3 : w6.cell? ⟨g, 3, none⟩ = some (.string a3) := cell_of_row _ _ 3 _ _ _ F5.out
    have f4 : w6.cell? ⟨g, 4, none⟩ = some (.int .i64 a4) := cell_of_row _ _ 4 _ _ _ F5.out
    clear F5
    go_wp2_with (go_at_call 42; (with_reducible refine cg.mono ?_); rintro e w7 ⟨rfl, hgo⟩; clear cg)
    go_ret
    exact ⟨rfl, hgo⟩
  case main =>
    refine anyM_two (i := 7) (j := 11) (by kernel_rfl) rfl rfl rfl rfl (fun K hK => ?_) (fun K hK => ?_)
    · have cc := HM.out w3.drew ((Below.refl _ w3).drew)
      go_simp
      refine ⟨trivial, (callsIn_wide.2 cc).mono ?_⟩
      rintro e w4 ⟨a0, a1, a3, a4, rfl, hk4, hU4, hg4⟩
      refine hK _ _ ⟨.inl rfl, fun hh => ⟨cell_keep hh.1 (hk4 _ (.inl rfl)), cell_keep hh.2 (hk4 _ (.inr (.inl rfl)))⟩⟩ ?_
      clear hK K cc
      (try simp only [Act.put, List.getElem_toArray, List.getElem_cons_zero, List.getElem_cons_succ, List.setIfInBounds_toArray, List.set_cons_zero, List.set_cons_succ])
      (refine anyM_take0 (i := 8) (v := ?_) rfl (by kernel_rfl) (by kernel_rfl) (by kernel_rfl) (fun _ _ _ h => h) (Or.inl ⟨by rfl, ?_⟩) ?_); rotate_left; (focus (intro w' hSw; go_simp; (try with_reducible rfl))); (try simp only [Act.put, List.getElem_toArray, List.getElem_cons_zero, List.getElem_cons_succ, List.setIfInBounds_toArray, List.set_cons_zero, List.set_cons_succ])
      (refine anyM_take0 (i := 9) (v := ?_) rfl (by kernel_rfl) (by kernel_rfl) (by kernel_rfl) (fun _ _ _ h => h) (Or.inl ⟨by rfl, ?_⟩) ?_); rotate_left; (focus (intro w' hSw; go_simp; (try with_reducible rfl))); (try simp only [Act.put, List.getElem_toArray, List.getElem_cons_zero, List.getElem_cons_succ, List.setIfInBounds_toArray, List.set_cons_zero, List.set_cons_succ])
      (refine anyM_take0 (i := 10) (v := ?_) rfl (by kernel_rfl) (by kernel_rfl) (by kernel_rfl) (fun _ _ _ h => h) (Or.inl ⟨by rfl, ?_⟩) ?_); rotate_left; (focus (intro w' hSw; go_simp; (try with_reducible rfl))); (try simp only [Act.put, List.getElem_toArray, List.getElem_cons_zero, List.getElem_cons_succ, List.setIfInBounds_toArray, List.set_cons_zero, List.set_cons_succ])
      refine anyM_one (i := 11) (by kernel_rfl) rfl rfl (fun K hK => ?_)
      go_simp
      have Z4 : w3.heap.size ≤ w4.heap.size := hU4.size
      have hBa : Below w4.heap.size w4 (w4.alloc (.cells #[.int .i64 0, .int .i64 0, .int .u64 0, .string ⟨#[]⟩, .int .i64 0] 95)) := (Below.refl _ w4).alloc (Nat.le_refl _) _
      refine hK _ _ ⟨.inr (fun _ => trivial), fun hh => ⟨below_cell hBa hh.1, below_cell hBa hh.2⟩⟩ ?_
      clear hK K
      (try simp only [Act.put, List.getElem_toArray, List.getElem_cons_zero, List.getElem_cons_succ, List.setIfInBounds_toArray, List.set_cons_zero, List.set_cons_succ])
      refine anyM_same (by kernel_rfl) ?_ (TAIL _ _ ⟨a0, a1, a3, a4, w4.heap.size, Z4, rfl, World.alloc_heap_new w4 (.cells #[.int .i64 0, .int .i64 0, .int .u64 0, .string ⟨#[]⟩, .int .i64 0] 95), hid (fun w6 hU => hg4 w6 (alloc_then hU))⟩)
      (try simp only [Act.put, List.getElem_toArray, List.getElem_cons_zero, List.getElem_cons_succ, List.setIfInBounds_toArray, List.set_cons_zero, List.set_cons_succ])
    · go_simp
      have hBa : Below w3.heap.size w3 (w3.alloc (.cells #[.int .i64 0, .int .i64 0, .int .u64 0, .string ⟨#[]⟩, .int .i64 0] 95)).drew := ((Below.refl _ w3).alloc (Nat.le_refl _) _).drew
      have ga : (w3.alloc (.cells #[.int .i64 0, .int .i64 0, .int .u64 0, .string ⟨#[]⟩, .int .i64 0] 95)).drew.heap[w3.heap.size]? = some (.cells #[.int .i64 0, .int .i64 0, .int .u64 0, .string ⟨#[]⟩, .int .i64 0] 95 (0, 0)) := World.alloc_heap_new w3 (.cells #[.int .i64 0, .int .i64 0, .int .u64 0, .string ⟨#[]⟩, .int .i64 0] 95)
      have za : (w3.alloc (.cells #[.int .i64 0, .int .i64 0, .int .u64 0, .string ⟨#[]⟩, .int .i64 0] 95)).drew.heap.size = w3.heap.size + 1 := World.size_alloc w3 _
      refine hK _ _ ⟨.inr (fun _ => trivial), fun hh => ⟨below_cell hBa hh.1, below_cell hBa hh.2⟩⟩ ?_
      clear hK K
      (try simp only [Act.put, List.getElem_toArray, List.getElem_cons_zero, List.getElem_cons_succ, List.setIfInBounds_toArray, List.set_cons_zero, List.set_cons_succ])
      have cc := HM.out _ hBa
      generalize (w3.alloc (.cells #[.int .i64 0, .int .i64 0, .int .u64 0, .string ⟨#[]⟩, .int .i64 0] 95)).drew = wa at *
      have ZA := hid za
      clear za
      refine anyM_one (i := 7) (by kernel_rfl) rfl rfl (fun K hK => ?_)
      go_simp
      refine ⟨trivial, (callsIn_wide.2 cc).mono ?_⟩
      rintro e w4 ⟨a0, a1, a3, a4, rfl, hk4, hU4, hg4⟩
      refine hK _ _ ⟨.inl rfl, fun hh => ⟨cell_keep hh.1 (hk4 _ (.inl rfl)), cell_keep hh.2 (hk4 _ (.inr (.inl rfl)))⟩⟩ ?_
      clear hK K cc
      (try simp only [Act.put, List.getElem_toArray, List.getElem_cons_zero, List.getElem_cons_succ, List.setIfInBounds_toArray, List.set_cons_zero, List.set_cons_succ])
      (refine anyM_take0 (i := 8) (v := ?_) rfl (by kernel_rfl) (by kernel_rfl) (by kernel_rfl) (fun _ _ _ h => h) (Or.inl ⟨by rfl, ?_⟩) ?_); rotate_left; (focus (intro w' hSw; go_simp; (try with_reducible rfl))); (try simp only [Act.put, List.getElem_toArray, List.getElem_cons_zero, List.getElem_cons_succ, List.setIfInBounds_toArray, List.set_cons_zero, List.set_cons_succ])
      (refine anyM_take0 (i := 9) (v := ?_) rfl (by kernel_rfl) (by kernel_rfl) (by kernel_rfl) (fun _ _ _ h => h) (Or.inl ⟨by rfl, ?_⟩) ?_); rotate_left; (focus (intro w' hSw; go_simp; (try with_reducible rfl))); (try simp only [Act.put, List.getElem_toArray, List.getElem_cons_zero, List.getElem_cons_succ, List.setIfInBounds_toArray, List.set_cons_zero, List.set_cons_succ])
      (refine anyM_take0 (i := 10) (v := ?_) rfl (by kernel_rfl) (by kernel_rfl) (by kernel_rfl) (fun _ _ _ h => h) (Or.inl ⟨by rfl, ?_⟩) ?_); rotate_left; (focus (intro w' hSw; go_simp; (try with_reducible rfl))); (try simp only [Act.put, List.getElem_toArray, List.getElem_cons_zero, List.getElem_cons_succ, List.setIfInBounds_toArray, List.set_cons_zero, List.set_cons_succ])
      refine anyM_same (by kernel_rfl) ?_ (TAIL _ _ ⟨a0, a1, a3, a4, w3.heap.size, Nat.le_refl _, rfl, (hU4.block _ (by have := ZA.out; omega) (by omega)).trans ga, hid (fun w6 hU => hg4 w6 (hU.mono (fun k e => ⟨by omega, by have := ZA.out; omega⟩)))⟩)
      (try simp only [Act.put, List.getElem_toArray, List.getElem_cons_zero, List.getElem_cons_succ, List.setIfInBounds_toArray, List.set_cons_zero, List.set_cons_succ])
end
end Go.Proofs.YtndkfjoaiinjoaaGreat.W
