import Derived.Test.YtndkfjoaiinjoaaGreatBase37
/- TextPlays: grows. -/
namespace Go.Proofs.YtndkfjoaiinjoaaGreat.W
open Go.ChangeShapes Go.WideShapes Go.RowKit Go.Shelf
set_option linter.unusedVariables false
set_option linter.unusedSimpArgs false
/-- what lies apart in the pool -/
structure Sep (pb rb : Nat) (lv wv vv : Value) : Prop where
  p1 : pb ≠ rb
  p2 : lv.ownBlock ≠ some pb
  p3 : wv.ownBlock ≠ some pb
  p4 : vv.ownBlock ≠ some pb
  p5 : wv.ownBlock ≠ some rb
  p6 : vv.ownBlock ≠ some rb
  p7 : ∀ k, wv.ownBlock = some k → lv.ownBlock ≠ some k
  p8 : ∀ k, vv.ownBlock = some k → lv.ownBlock ≠ some k
  p9 : ∀ k, wv.ownBlock = some k → vv.ownBlock ≠ some k
theorem app_word (w : World) (ty : TypeId) (v : Value) (xs : List Nat) (hown : w.ownsRow 0 26 1 v xs.length (xs.map (fun n => Value.int .u64 (n : Nat)))) (g x : Nat) (hg : w.heap[g]? = some (.cells #[.int .u64 (x : Nat)] 26 (0, 0))) (hn : xs.length ≤ 2000000) :
    ∃ v' w', (Builtin.append_ #[29, 29] ty #[v, .slice (some ⟨g, 0, none⟩) 1 1]).run Tryz.prog w = .ok v' w' ∧ w'.ownsRow 0 26 1 v' (xs ++ [x]).length ((xs ++ [x]).map (fun n => Value.int .u64 (n : Nat))) ∧ w.grownBy w' v.ownBlock ∧ (∀ k, v'.ownBlock = some k → v.ownBlock = some k ∨ (w.heap.size ≤ k ∧ k < w'.heap.size)) := by
  obtain ⟨i0, hi, hz0, hz1, hz2⟩ := info_parts infoW
  obtain ⟨v', w', r1, r2, r3, r4⟩ := append_wide (P := Tryz.prog) w 29 ty 26 i0 _ 1 8 underW hi hz0 hz1 hz2 rfl (by omega) v xs.length _ hown ⟨g, 0, none⟩ 1 1 [.int .u64 (x : Nat)] (by simp) (by
    intro j u hj
    have hj0 : j = 0 := by have := (List.getElem?_eq_some_iff.1 hj).1; simp at this; exact this
    subst hj0
    simp at hj
    subst hj
    have e1 : ((⟨g, 0, none⟩ : Addr).add 0) = ⟨g, 0, none⟩ := by unfold Addr.add; split <;> simp_all
    rw [e1]
    exact cell_of_row _ _ 0 _ _ _ hg) (by intro y hy; simp at hy; rw [hy]; rfl) (by omega) (by omega) (by omega)
  exact ⟨v', w', r1, by rw [List.map_append, List.length_append]; exact r2, r3, r4⟩
set_option maxRecDepth 100000 in
theorem grows_no (E : Int) (hE : ¬ E = 0) (pp : Value) (x0 x1 x4 : Int) (x3 : ByteArray) (W : World) : Calls Tryz.prog 42 #[pp, .int .u64 0, .int .i64 E, .agg #[.int .i64 x0, .int .i64 x1, .int .u64 0, .string x3, .int .i64 x4], .int .i64 E] W fun e w' => e = .returned (.bool true) ∧ Below W.heap.size W w' := by
  have hB := fun o => (Below.refl _ W).alloc (Nat.le_refl _) o
  go_enter Tryz.func42, Tryz.ntmps42
  go_wp2
  go_ret
  exact ⟨by simp, hB _⟩
section
variable {W W' : World} {pb hb rb : Nat} {lv wv vv : Value} {room : Nat} {L : List Rc} {ws : List Nat} {vs : List Tv} {S : Nat → Prop} {H : List (Option Hc)} {u : Nat}
set_option maxRecDepth 100000 in
set_option maxHeartbeats 4000000 in
theorem grows_c (h : Tpl W pb hb rb lv wv vv room L ws vs) (sp : Sep pb rb lv wv vv) (v : Tv) (w : Nat) (hiv : IsV H w v.whole v.i v.t) (hq : ∀ w', Upd (fun k => k = pb ∨ wv.ownBlock = some k ∨ vv.ownBlock = some k) W w' → HSt w' S hb H u) (hcell : v.cell < 0 ∨ ∃ k : Nat, v.cell = k ∧ k < L.length) (hfew : vs.length < 500) :
    Calls Tryz.prog 42 #[.pointer (some ⟨pb, 0, none⟩), .int .u64 w, .int .i64 0, .agg #[.int .i64 (kdW v.whole), .int .i64 v.i, .int .u64 0, .string v.t, .int .i64 v.cell], .int .i64 0] W fun e w' => e = .returned (.bool true) ∧ ∃ wv' vv', Tpl w' pb hb rb lv wv' vv' room L (ws ++ [w]) (vs ++ [v]) ∧ Upd (fun k => k = pb ∨ wv.ownBlock = some k ∨ vv.ownBlock = some k) W w' ∧ (∀ k, wv'.ownBlock = some k → wv.ownBlock = some k ∨ W.heap.size ≤ k) ∧ (∀ k, vv'.ownBlock = some k → vv.ownBlock = some k ∨ W.heap.size ≤ k) ∧ (∀ k, wv'.ownBlock = some k → vv'.ownBlock ≠ some k) := by
  have hB1 : Below W.heap.size W (W.alloc (.cells #[.int .i64 (kdW v.whole), .int .i64 v.i, .int .u64 0, .string v.t, .int .i64 v.cell] 95)) := (Below.refl _ W).alloc (Nat.le_refl _) _
  have hN1 := World.alloc_heap_new W (.cells #[.int .i64 (kdW v.whole), .int .i64 v.i, .int .u64 0, .string v.t, .int .i64 v.cell] 95)
  have hz1 : (W.alloc (.cells #[.int .i64 (kdW v.whole), .int .i64 v.i, .int .u64 0, .string v.t, .int .i64 v.cell] 95)).heap.size = W.heap.size + 1 := World.size_alloc ..
  have h1 := h.below hB1
  have hlt := fun k hk => h.lt k hk
  obtain ⟨ow, cw, hwv⟩ := slice_of h.wrow
  obtain ⟨ov, cv, hvv⟩ := slice_of h.vrow
  have hl := h.len
  rw [hl] at hwv
  have ct : ∀ (w6 : World) (wv' vv' : Value), Tpl w6 pb hb rb lv wv' vv' room L (ws ++ [w]) (vs ++ [v]) → Upd (fun k => k = pb ∨ wv.ownBlock = some k ∨ vv.ownBlock = some k) W w6 → Calls Tryz.prog 20 #[.pointer (some ⟨pb, 0, none⟩), .int .i64 (vs.length : Nat)] w6 fun e w' => e = .returned (.bool true) ∧ Below w6.heap.size w6 w' := fun w6 wv' vv' hT hU => tells_c hT (hq w6 hU) vs.length v w (by simp) (by rw [← hl]; simp) hiv
  have HH := hid (And.intro h1 (And.intro sp (And.intro hlt (And.intro hB1 hN1))))
  have CT := hid ct
  have HC := hid hcell
  go_enter Tryz.func42, Tryz.ntmps42
  go_upto_region 3 with fail
  have ZZ := hid hz1
  clear hz1 hB1 hN1 h1 hlt ct hq hiv hcell
  generalize W.alloc (.cells #[.int .i64 (kdW v.whole), .int .i64 v.i, .int .u64 0, .string v.t, .int .i64 v.cell] 95) = W1 at *
  generalize hb0 : W.heap.size = b0 at *
  have HB0 := hid hb0
  clear hb0
  obtain ⟨q1, q2, q3, q4, q5⟩ := HH.out
  have SS := hid (show ∀ w, Upd (fun k => wv.ownBlock = some k ∨ vv.ownBlock = some k) W1 w → w.heap[pb]? = some (.cells #[.pointer (some ⟨hb, 0, none⟩), .pointer (some ⟨rb, 0, none⟩), wv, vv] 59 (0, 0)) ∧ w.heap[b0]? = some (.cells #[.int .i64 (kdW v.whole), .int .i64 v.i, .int .u64 0, .string v.t, .int .i64 v.cell] 95 (0, 0)) from fun w hU => ⟨(hU.block pb (q1.lt pb (.inl rfl)) (by rintro (e | e); exact q2.p3 e; exact q2.p4 e)).trans q1.blk, (hU.block b0 (by have := ZZ.out; omega) (by rintro (e | e); exact absurd (q3 b0 (.inr (.inr (.inr (.inl e))))) (by omega); exact absurd (q3 b0 (.inr (.inr (.inr (.inr e))))) (by omega))).trans q5⟩)
  have U0 : Upd (fun k => wv.ownBlock = some k ∨ vv.ownBlock = some k) W1 W1.drew := (Upd.refl _ W1).drew
  have hS := (SS.out _ U0).1
  have hT := (SS.out _ U0).2
  subst hwv
  subst hvv
  have RW := hid q1.wrow
  have RV := hid q1.vrow
  have SP := hid q2
  have TP := hid q1
  clear q1 q2 q3 q4 q5
  generalize hkd : kdW v.whole = kd at *
  generalize hvi : v.i = vi at *
  generalize hvt : v.t = vt at *
  generalize hvc : v.cell = vc at *
  have EQ := hid (And.intro hkd (And.intro hvi (And.intro hvt hvc)))
  clear hkd hvi hvt hvc
  have FV := hid (show (flatT [v]).toArray = #[.int .i64 kd, .int .i64 vi, .int .u64 0, .string vt, .int .i64 vc] by
    obtain ⟨q1, q2, q3, q4⟩ := EQ.out
    simp only [flatT, List.flatMap_cons, List.flatMap_nil, List.append_nil, Tv.cells]
    rw [← q1, ← q2, ← q3, ← q4]
    rfl)
  refine wp_region_noPanic ?_
  refine plain_anyM (z := [18, 21]) (S := fun w' => w'.heap[pb]? = some (.cells #[.pointer (some ⟨hb, 0, none⟩), .pointer (some ⟨rb, 0, none⟩), .slice ow vs.length cw, .slice ov vs.length cv] 59 (0, 0))) (T := fun w' => w'.heap[b0]? = some (.cells #[.int .i64 kd, .int .i64 vi, .int .u64 0, .string vt, .int .i64 vc] 95 (0, 0))) (by kernel_rfl) ?_
  (refine anyM_take0 (i := 0) (v := ?_) rfl (by kernel_rfl) (by kernel_rfl) (by kernel_rfl) (fun _ _ _ h => h) (Or.inl ⟨by rfl, ?_⟩) ?_); rotate_left; (focus (intro w' hSw; go_simp; (try with_reducible rfl))); (try simp only [Act.put, List.getElem_toArray, List.getElem_cons_zero, List.getElem_cons_succ, List.setIfInBounds_toArray, List.set_cons_zero, List.set_cons_succ])
  (refine anyM_take0 (i := 1) (v := ?_) rfl (by kernel_rfl) (by kernel_rfl) (by kernel_rfl) (fun _ _ _ h => h) (Or.inl ⟨by rfl, ?_⟩) ?_); rotate_left; (focus (intro w' hSw; go_simp; (try with_reducible rfl))); (try simp only [Act.put, List.getElem_toArray, List.getElem_cons_zero, List.getElem_cons_succ, List.setIfInBounds_toArray, List.set_cons_zero, List.set_cons_succ])
  (refine anyM_take0 (i := 2) (v := ?_) rfl (by kernel_rfl) (by kernel_rfl) (by kernel_rfl) (fun _ _ _ h => h) (Or.inl ⟨by rfl, ?_⟩) ?_); rotate_left; (focus (intro w' hSw; go_simp; (try with_reducible rfl))); (try simp only [Act.put, List.getElem_toArray, List.getElem_cons_zero, List.getElem_cons_succ, List.setIfInBounds_toArray, List.set_cons_zero, List.set_cons_succ])
  (refine anyM_take0 (i := 3) (v := ?_) rfl (by kernel_rfl) (by kernel_rfl) (by kernel_rfl) (fun _ _ _ h => h) (Or.inl ⟨by rfl, ?_⟩) ?_); rotate_left; (focus (intro w' hSw; go_simp; (try with_reducible rfl))); (try simp only [Act.put, List.getElem_toArray, List.getElem_cons_zero, List.getElem_cons_succ, List.setIfInBounds_toArray, List.set_cons_zero, List.set_cons_succ])
  (refine anyM_take0 (i := 4) (v := ?_) rfl (by kernel_rfl) (by kernel_rfl) (by kernel_rfl) (fun _ _ _ h => h) (Or.inl ⟨by rfl, ?_⟩) ?_); rotate_left; (focus (intro w' hSw; go_simp; (try with_reducible rfl))); (try simp only [Act.put, List.getElem_toArray, List.getElem_cons_zero, List.getElem_cons_succ, List.setIfInBounds_toArray, List.set_cons_zero, List.set_cons_succ])
  (refine anyM_take (i := 5) (v := ?_) rfl (by kernel_rfl) (by kernel_rfl) (by kernel_rfl) (by kernel_rfl) (fun _ _ _ h => h) (Or.inl ⟨by rfl, ?_⟩) hS ?_); rotate_left; (focus (intro w' hSw; (have e1 := fun j => cell_of_row w' pb j _ _ _ hSw); go_simp; (try with_reducible rfl))); (try simp only [Act.put, List.getElem_toArray, List.getElem_cons_zero, List.getElem_cons_succ, List.setIfInBounds_toArray, List.set_cons_zero, List.set_cons_succ])
  (refine anyM_take0 (i := 6) (v := ?_) rfl (by kernel_rfl) (by kernel_rfl) (by kernel_rfl) (fun _ _ _ h => h) (Or.inl ⟨by rfl, ?_⟩) ?_); rotate_left; (focus (intro w' hSw; go_simp; (try with_reducible rfl))); (try simp only [Act.put, List.getElem_toArray, List.getElem_cons_zero, List.getElem_cons_succ, List.setIfInBounds_toArray, List.set_cons_zero, List.set_cons_succ])
  (refine anyM_take0 (i := 9) (v := ?_) rfl (by kernel_rfl) (by kernel_rfl) (by kernel_rfl) (fun _ _ _ h => h) (Or.inl ⟨by rfl, ?_⟩) ?_); rotate_left; (focus (intro w' hSw; go_simp; (try with_reducible rfl))); (try simp only [Act.put, List.getElem_toArray, List.getElem_cons_zero, List.getElem_cons_succ, List.setIfInBounds_toArray, List.set_cons_zero, List.set_cons_succ])
  (refine anyM_take0 (i := 10) (v := ?_) rfl (by kernel_rfl) (by kernel_rfl) (by kernel_rfl) (fun _ _ _ h => h) (Or.inl ⟨by rfl, ?_⟩) ?_); rotate_left; (focus (intro w' hSw; go_simp; (try with_reducible rfl))); (try simp only [Act.put, List.getElem_toArray, List.getElem_cons_zero, List.getElem_cons_succ, List.setIfInBounds_toArray, List.set_cons_zero, List.set_cons_succ])
  (refine anyM_take0 (i := 11) (v := ?_) rfl (by kernel_rfl) (by kernel_rfl) (by kernel_rfl) (fun _ _ _ h => h) (Or.inl ⟨by rfl, ?_⟩) ?_); rotate_left; (focus (intro w' hSw; go_simp; (try with_reducible rfl))); (try simp only [Act.put, List.getElem_toArray, List.getElem_cons_zero, List.getElem_cons_succ, List.setIfInBounds_toArray, List.set_cons_zero, List.set_cons_succ])
  (refine anyM_take (i := 12) (v := ?_) rfl (by kernel_rfl) (by kernel_rfl) (by kernel_rfl) (by kernel_rfl) (fun _ _ _ h => h) (Or.inl ⟨by rfl, ?_⟩) hS ?_); rotate_left; (focus (intro w' hSw; (have e1 := fun j => cell_of_row w' pb j _ _ _ hSw); go_simp; (try with_reducible rfl))); (try simp only [Act.put, List.getElem_toArray, List.getElem_cons_zero, List.getElem_cons_succ, List.setIfInBounds_toArray, List.set_cons_zero, List.set_cons_succ])
  (refine anyM_take1 (i := 13) (v := ?_) rfl (by kernel_rfl) (by kernel_rfl) (by kernel_rfl) (fun _ _ _ h => h) (Or.inl ⟨by rfl, ?_⟩) hT ?_); rotate_left; (focus (intro w' hSw; (have e1 := fun j => cell_of_row w' b0 j _ _ _ hSw); go_simp; (try with_reducible rfl))); (try simp only [Act.put, List.getElem_toArray, List.getElem_cons_zero, List.getElem_cons_succ, List.setIfInBounds_toArray, List.set_cons_zero, List.set_cons_succ])
  clear hS hT
  refine anyM_cut (fun a0 a' w' => ∃ s32 ow' cw' s39 ov' cv', a' = (((a0.put (some 32) s32).put (some 33) (.slice ow' (vs.length + 1) cw')).put (some 39) s39).put (some 40) (.slice ov' (vs.length + 1) cv') ∧ Upd (fun k => (Value.slice ow vs.length cw).ownBlock = some k ∨ (Value.slice ov vs.length cv).ownBlock = some k) W1 w' ∧ w'.ownsRow 0 26 1 (.slice ow' (vs.length + 1) cw') (ws ++ [w]).length ((ws ++ [w]).map (fun n => Value.int .u64 (n : Nat))) ∧ w'.ownsRow 0 95 5 (.slice ov' (vs.length + 1) cv') (vs ++ [v]).length (flatT (vs ++ [v])) ∧ (∀ k, (Value.slice ow' (vs.length + 1) cw').ownBlock = some k → (Value.slice ow vs.length cw).ownBlock = some k ∨ b0 + 1 ≤ k) ∧ (∀ k, (Value.slice ov' (vs.length + 1) cv').ownBlock = some k → (Value.slice ov vs.length cv).ownBlock = some k ∨ b0 + 1 ≤ k) ∧ (∀ k, (Value.slice ow' (vs.length + 1) cw').ownBlock = some k → (Value.slice ov' (vs.length + 1) cv').ownBlock ≠ some k)) 6 #[true, true, true, true, true, true, true, true, true, true, true, true, true, true, true, true, false, false, false, false, false, false] ?tail (fun TAIL => ?main)
  case tail =>
    rintro a' w4 ⟨s32, ow', cw', s39, ov', cv', rfl, hU4, hW4, hV4, k1, k2, k3⟩
    (try simp only [Act.put, List.getElem_toArray, List.getElem_cons_zero, List.getElem_cons_succ, List.setIfInBounds_toArray, List.set_cons_zero, List.set_cons_succ])
    obtain ⟨s1, s2⟩ := SS.out w4 hU4
    have sp := SP.out
    refine anyM_one (i := 16) (by kernel_rfl) rfl rfl (fun K hK => ?_)
    go_simp
    refine hK _ _ ⟨.inr id, id⟩ ?_
    clear hK K
    (try simp only [Act.put, List.getElem_toArray, List.getElem_cons_zero, List.getElem_cons_succ, List.setIfInBounds_toArray, List.set_cons_zero, List.set_cons_succ])
    refine anyM_one (i := 17) (by kernel_rfl) rfl rfl (fun K hK => ?_)
    go_simp
    refine hK _ _ ⟨.inr id, id⟩ ?_
    clear hK K
    (try simp only [Act.put, List.getElem_toArray, List.getElem_cons_zero, List.getElem_cons_succ, List.setIfInBounds_toArray, List.set_cons_zero, List.set_cons_succ])
    have c2 : w4.cell? ⟨pb, 2, none⟩ = some (.slice ow vs.length cw) := cell_of_row _ _ 2 _ _ _ s1
    have z2 : w4.frozen? ⟨pb, 2, none⟩ = false := by simp only [World.frozen?, s1]; simp
    have s1' : (w4.setCell ⟨pb, 2, none⟩ (.slice ow' (vs.length + 1) cw')).heap[pb]? = some (.cells #[.pointer (some ⟨hb, 0, none⟩), .pointer (some ⟨rb, 0, none⟩), .slice ow' (vs.length + 1) cw', .slice ov vs.length cv] 59 (0, 0)) := by
      have := heap_set (c := [.pointer (some ⟨hb, 0, none⟩), .pointer (some ⟨rb, 0, none⟩), .slice ow vs.length cw, .slice ov vs.length cv]) s1 2 (.slice ow' (vs.length + 1) cw')
      simpa using this
    have npb : b0 ≠ pb := by
      have := TP.out.lt pb (.inl rfl)
      intro e
      subst e
      have h0 := HH.out.2.2.1 b0 (.inl rfl)
      omega
    refine anyM_one (i := 18) (by kernel_rfl) rfl rfl (fun K hK => ?_)
    go_simp
    refine hK _ _ ⟨.inl rfl, fun h => (Below.heap_setCell _ _ _ _ npb).trans h⟩ ?_
    clear hK K c2 z2
    (try simp only [Act.put, List.getElem_toArray, List.getElem_cons_zero, List.getElem_cons_succ, List.setIfInBounds_toArray, List.set_cons_zero, List.set_cons_succ])
    have U5 : Upd (fun k => k = pb) w4 (w4.setCell ⟨pb, 2, none⟩ (.slice ow' (vs.length + 1) cw')) := (Upd.refl (fun k => k = pb) w4).setCell (p := ⟨pb, 2, none⟩) (.inl rfl) _
    generalize w4.setCell ⟨pb, 2, none⟩ (.slice ow' (vs.length + 1) cw') = w5 at *
    refine anyM_one (i := 19) (by kernel_rfl) rfl rfl (fun K hK => ?_)
    go_simp
    refine hK _ _ ⟨.inr id, id⟩ ?_
    clear hK K
    (try simp only [Act.put, List.getElem_toArray, List.getElem_cons_zero, List.getElem_cons_succ, List.setIfInBounds_toArray, List.set_cons_zero, List.set_cons_succ])
    refine anyM_one (i := 20) (by kernel_rfl) rfl rfl (fun K hK => ?_)
    go_simp
    refine hK _ _ ⟨.inr id, id⟩ ?_
    clear hK K
    (try simp only [Act.put, List.getElem_toArray, List.getElem_cons_zero, List.getElem_cons_succ, List.setIfInBounds_toArray, List.set_cons_zero, List.set_cons_succ])
    have c3 : w5.cell? ⟨pb, 3, none⟩ = some (.slice ov vs.length cv) := cell_of_row _ _ 3 _ _ _ s1'
    have z3 : w5.frozen? ⟨pb, 3, none⟩ = false := by simp only [World.frozen?, s1']; simp
    have s6 : (w5.setCell ⟨pb, 3, none⟩ (.slice ov' (vs.length + 1) cv')).heap[pb]? = some (.cells #[.pointer (some ⟨hb, 0, none⟩), .pointer (some ⟨rb, 0, none⟩), .slice ow' (vs.length + 1) cw', .slice ov' (vs.length + 1) cv'] 59 (0, 0)) := by
      have := heap_set (c := [.pointer (some ⟨hb, 0, none⟩), .pointer (some ⟨rb, 0, none⟩), .slice ow' (vs.length + 1) cw', .slice ov vs.length cv]) s1' 3 (.slice ov' (vs.length + 1) cv')
      simpa using this
    refine anyM_one (i := 21) (by kernel_rfl) rfl rfl (fun K hK => ?_)
    go_simp
    refine hK _ _ ⟨.inl rfl, fun h => (Below.heap_setCell _ _ _ _ npb).trans h⟩ ?_
    clear hK K c3 z3
    (try simp only [Act.put, List.getElem_toArray, List.getElem_cons_zero, List.getElem_cons_succ, List.setIfInBounds_toArray, List.set_cons_zero, List.set_cons_succ])
    have U6 : Upd (fun k => k = pb) w4 (w5.setCell ⟨pb, 3, none⟩ (.slice ov' (vs.length + 1) cv')) := U5.setCell (p := ⟨pb, 3, none⟩) (.inl rfl) _
    generalize w5.setCell ⟨pb, 3, none⟩ (.slice ov' (vs.length + 1) cv') = w6 at *
    refine anyM_done (by kernel_rfl) ?_ _
    refine NoPanic.normal ?_
    have hB1 := HH.out.2.2.2.1
    have UW : Upd (fun k => k = pb ∨ (Value.slice ow vs.length cw).ownBlock = some k ∨ (Value.slice ov vs.length cv).ownBlock = some k) W w6 := by
      have u1 : Upd (fun k => k = pb ∨ (Value.slice ow vs.length cw).ownBlock = some k ∨ (Value.slice ov vs.length cv).ownBlock = some k) W W1 := Upd.of_below (by rw [HB0.out]; exact hB1)
      exact (u1.trans' (hU4.mono (fun k e => .inr e))).trans' (U6.mono (fun k e => .inl e))
    have tp := TP.out
    have pbl := HH.out.2.2.1 pb (.inl rfl)
    have T6 : Tpl w6 pb hb rb lv (.slice ow' (vs.length + 1) cw') (.slice ov' (vs.length + 1) cv') room L (ws ++ [w]) (vs ++ [v]) := by
      refine ⟨s6, ?_, owns_on hW4 (fun k e => U6.block k (hW4.lt k e).2 ?_), owns_on hV4 (fun k e => U6.block k (hV4.lt k e).2 ?_), by simp [hl], ?_, by simp; omega⟩
      · refine tp.ref.on (fun k hk => ?_)
        have hkl := tp.ref.lt k hk
        have hk4 : w4.heap[k]? = W1.heap[k]? := hU4.block k hkl (by
          rintro (e | e)
          · rcases hk with rfl | hk
            · exact sp.p5 e
            · exact sp.p7 k e hk
          · rcases hk with rfl | hk
            · exact sp.p6 e
            · exact sp.p8 k e hk)
        rw [U6.block k (by have := hU4.size; omega) (by
          intro e
          rcases hk with rfl | hk
          · exact sp.p1 e.symm
          · rw [e] at hk; exact sp.p2 hk)]
        exact hk4
      · intro e2
        subst e2
        rcases k1 k e with e | e
        · exact sp.p3 e
        · omega
      · intro e2
        subst e2
        rcases k2 k e with e | e
        · exact sp.p4 e
        · omega
      · intro x hx
        rcases List.mem_append.1 hx with hx | hx
        · exact tp.cel x hx
        · simp at hx
          subst hx
          rw [EQ.out.2.2.2]
          exact HC.out
    have ct := CT.out w6 _ _ T6 UW
    have c6 : w6.cell? ⟨pb, 3, none⟩ = some (.slice ov' (vs.length + 1) cv') := cell_of_row _ _ 3 _ _ _ s6
    have wl := wl_a vs.length (by omega)
    have wl2 := wl_b vs.length (by omega)
    have FIN := hid (And.intro T6 (And.intro UW (And.intro k1 (And.intro k2 k3))))
    clear T6 UW s6 s1' U6 U5 hW4 hV4 k1 k2 k3 s1 s2 hU4 hB1 tp pbl sp npb
    go_wp2_with (go_at_call 20; (with_reducible refine ct.mono ?_); rintro e w7 ⟨rfl, hB7⟩; clear ct)
    go_ret
    refine ⟨rfl, _, _, FIN.out.1.below hB7, FIN.out.2.1.trans' (Upd.of_below hB7), fun k e => (FIN.out.2.2.1 k e).imp id (fun h => by have := HB0.out; omega), fun k e => (FIN.out.2.2.2.1 k e).imp id (fun h => by have := HB0.out; omega), FIN.out.2.2.2.2⟩
  case main =>
    have WLT := hid (show ∀ k, (Value.slice ow vs.length cw).ownBlock = some k → k < b0 from fun k e => HH.out.2.2.1 k (.inr (.inr (.inr (.inl e)))))
    have VLT := hid (show ∀ k, (Value.slice ov vs.length cv).ownBlock = some k → k < b0 from fun k e => HH.out.2.2.1 k (.inr (.inr (.inr (.inr e)))))
    refine anyM_two (i := 7) (j := 14) (by kernel_rfl) rfl rfl rfl rfl (fun K hK => ?_) (fun K hK => ?_)
    · go_simp
      have hBa : Below W1.heap.size W1 (W1.alloc (.cells #[.int .u64 (w : Nat)] 26)).drew := ((Below.refl _ W1).alloc (Nat.le_refl _) _).drew
      have ga : (W1.alloc (.cells #[.int .u64 (w : Nat)] 26)).drew.heap[W1.heap.size]? = some (.cells #[.int .u64 (w : Nat)] 26) := World.alloc_heap_new W1 (.cells #[.int .u64 (w : Nat)] 26)
      have za : (W1.alloc (.cells #[.int .u64 (w : Nat)] 26)).drew.heap.size = W1.heap.size + 1 := World.size_alloc W1 _
      refine hK _ _ ⟨.inr (fun _ => (SS.out _ (Upd.of_below hBa)).1), fun _ => (SS.out _ (Upd.of_below hBa)).2⟩ ?_
      clear hK K
      (try simp only [Act.put, List.getElem_toArray, List.getElem_cons_zero, List.getElem_cons_succ, List.setIfInBounds_toArray, List.set_cons_zero, List.set_cons_succ])
      generalize (W1.alloc (.cells #[.int .u64 (w : Nat)] 26)).drew = wa at *
      have ZA := hid za
      clear za
      refine anyM_two (i := 8) (j := 14) (by kernel_rfl) rfl rfl rfl rfl (fun K hK => ?_) (fun K hK => ?_)
      · obtain ⟨v1, wb, hrun, ho1, hg1, hk1⟩ := app_word wa 29 _ ws (owns_on RW.out (fun k e => hBa.block k (RW.out.lt k e).2)) W1.heap.size w ga (by omega)
        obtain ⟨o1, c1, hv1⟩ := slice_of ho1
        rw [show (ws ++ [w]).length = vs.length + 1 by simp [hl]] at hv1
        subst hv1
        have hUb : Upd (fun k => (Value.slice ow vs.length cw).ownBlock = some k ∨ (Value.slice ov vs.length cv).ownBlock = some k) W1 wb := (Upd.of_below hBa).grown hg1 (fun k e => .inl (.inl e))
        have hza := hBa.size
        have ovb := owns_on RV.out (W' := wb) (fun k e => (hg1.block k (by have := (RV.out.lt k e).2; omega) (fun e2 => SP.out.p9 k e2.symm e)).trans (hBa.block k (RV.out.lt k e).2))
        refine opIn_plain (fun c h => by cases h) ?_

        refine Lib.wp_append_run _ (.tmp 30) (.tmp 32) 29 29 rfl _ _ rfl rfl _ _ hrun ?_
        refine hK _ _ ⟨.inr (fun _ => (SS.out _ hUb).1), fun _ => (SS.out _ hUb).2⟩ ?_
        clear hK K hrun
        (try simp only [Act.put, List.getElem_toArray, List.getElem_cons_zero, List.getElem_cons_succ, List.setIfInBounds_toArray, List.set_cons_zero, List.set_cons_succ])
        refine anyM_one (i := 14) (by kernel_rfl) rfl rfl (fun K hK => ?_)
        go_simp
        have hBc : Below wb.heap.size wb (wb.alloc (.cells #[.int .i64 kd, .int .i64 vi, .int .u64 0, .string vt, .int .i64 vc] 95)) := (Below.refl _ wb).alloc (Nat.le_refl _) _
        have hUc : Upd (fun k => (Value.slice ow vs.length cw).ownBlock = some k ∨ (Value.slice ov vs.length cv).ownBlock = some k) W1 (wb.alloc (.cells #[.int .i64 kd, .int .i64 vi, .int .u64 0, .string vt, .int .i64 vc] 95)) := hUb.trans' (Upd.of_below hBc)
        have gd : (wb.alloc (.cells #[.int .i64 kd, .int .i64 vi, .int .u64 0, .string vt, .int .i64 vc] 95)).heap[wb.heap.size]? = some (.cells #[.int .i64 kd, .int .i64 vi, .int .u64 0, .string vt, .int .i64 vc] 95) := World.alloc_heap_new wb _
        have zz := ZZ.out
        have zc : (wb.alloc (.cells #[.int .i64 kd, .int .i64 vi, .int .u64 0, .string vt, .int .i64 vc] 95)).heap.size = wb.heap.size + 1 := World.size_alloc wb _
        refine hK _ _ ⟨.inr (fun _ => (SS.out _ hUc).1), fun _ => (SS.out _ hUc).2⟩ ?_
        clear hK K
        (try simp only [Act.put, List.getElem_toArray, List.getElem_cons_zero, List.getElem_cons_succ, List.setIfInBounds_toArray, List.set_cons_zero, List.set_cons_succ])
        generalize wb.alloc (.cells #[.int .i64 kd, .int .i64 vi, .int .u64 0, .string vt, .int .i64 vc] 95) = wc at *
        have ovc := owns_on ovb (W' := wc) (fun k e => hBc.block k (ovb.lt k e).2)
        have ho1c := owns_on ho1 (W' := wc) (fun k e => hBc.block k (ho1.lt k e).2)
        rw [← FV.out] at gd
        obtain ⟨v2, we, hrun2, ho2, hg2, hk2⟩ := app_vals wc 57 _ vs ovc _ [v] (lit_own wc wb.heap.size [v] (by simp) gd) (by simp; omega)
        obtain ⟨o2, c2, hv2⟩ := slice_of ho2
        rw [show (vs ++ [v]).length = vs.length + 1 by simp] at hv2
        subst hv2
        have hUe : Upd (fun k => (Value.slice ow vs.length cw).ownBlock = some k ∨ (Value.slice ov vs.length cv).ownBlock = some k) W1 we := hUc.grown hg2 (fun k e => .inl (.inr e))
        have nk : ∀ k, (Value.slice o1 (vs.length + 1) c1).ownBlock = some k → (Value.slice ov vs.length cv).ownBlock ≠ some k := fun k e e2 => by
          rcases hk1 k e with e | e
          · exact SP.out.p9 k e e2
          · have := VLT.out k e2
            omega
        have ow1 := owns_on ho1c (W' := we) (fun k e => hg2.block k (ho1c.lt k e).2 (fun e2 => nk k e e2.symm))
        have hzb := hUb.size
        have kk1 : ∀ k, (Value.slice o1 (vs.length + 1) c1).ownBlock = some k → (Value.slice ow vs.length cw).ownBlock = some k ∨ b0 + 1 ≤ k := fun k e => (hk1 k e).imp id (fun h => by omega)
        have kk2 : ∀ k, (Value.slice o2 (vs.length + 1) c2).ownBlock = some k → (Value.slice ov vs.length cv).ownBlock = some k ∨ b0 + 1 ≤ k := fun k e => (hk2 k e).imp id (fun h => by omega)
        have kk3 : ∀ k, (Value.slice o1 (vs.length + 1) c1).ownBlock = some k → (Value.slice o2 (vs.length + 1) c2).ownBlock ≠ some k := fun k e e2 => by
          rcases hk2 k e2 with e3 | e3
          · exact nk k e e3
          · have := (ho1.lt k e).2
            omega
        refine anyM_one (i := 15) (by kernel_rfl) rfl rfl (fun K hK => ?_)
        refine opIn_plain (fun c h => by cases h) ?_
        refine Lib.wp_append_run _ (.tmp 37) (.tmp 39) 57 57 rfl _ _ rfl rfl _ _ hrun2 ?_
        refine hK _ _ ⟨.inr (fun _ => (SS.out _ hUe).1), fun _ => (SS.out _ hUe).2⟩ ?_
        clear hK K hrun2
        (try simp only [Act.put, List.getElem_toArray, List.getElem_cons_zero, List.getElem_cons_succ, List.setIfInBounds_toArray, List.set_cons_zero, List.set_cons_succ])
        refine anyM_same (by kernel_rfl) ?_ (TAIL _ _ ⟨.slice (some ⟨W1.heap.size, 0, none⟩) 1 1, o1, c1, .slice (some ⟨wb.heap.size, 0, none⟩) 1 1, o2, c2, rfl, hUe, ow1, ho2, kk1, kk2, kk3⟩)
        (try simp only [Act.put, List.getElem_toArray, List.getElem_cons_zero, List.getElem_cons_succ, List.setIfInBounds_toArray, List.set_cons_zero, List.set_cons_succ])
      · go_simp
        have za := ZA.out
        have hBc0 : Below wa.heap.size wa (wa.alloc (.cells #[.int .i64 kd, .int .i64 vi, .int .u64 0, .string vt, .int .i64 vc] 95)) := (Below.refl _ wa).alloc (Nat.le_refl _) _
        have hBc : Below W1.heap.size W1 (wa.alloc (.cells #[.int .i64 kd, .int .i64 vi, .int .u64 0, .string vt, .int .i64 vc] 95)) := hBa.trans (hBc0.mono hBa.size)
        have G14 : (wa.alloc (.cells #[.int .i64 kd, .int .i64 vi, .int .u64 0, .string vt, .int .i64 vc] 95)).heap[wa.heap.size]? = some (.cells #[.int .i64 kd, .int .i64 vi, .int .u64 0, .string vt, .int .i64 vc] 95) := World.alloc_heap_new wa _
        have G7 : (wa.alloc (.cells #[.int .i64 kd, .int .i64 vi, .int .u64 0, .string vt, .int .i64 vc] 95)).heap[W1.heap.size]? = some (.cells #[.int .u64 (w : Nat)] 26) := (hBc0.block _ (by omega)).trans ga
        refine hK _ _ ⟨.inr (fun _ => (SS.out _ (Upd.of_below hBc)).1), fun _ => (SS.out _ (Upd.of_below hBc)).2⟩ ?_
        clear hK K
        (try simp only [Act.put, List.getElem_toArray, List.getElem_cons_zero, List.getElem_cons_succ, List.setIfInBounds_toArray, List.set_cons_zero, List.set_cons_succ])
        generalize wa.alloc (.cells #[.int .i64 kd, .int .i64 vi, .int .u64 0, .string vt, .int .i64 vc] 95) = wc at *
        have zz := ZZ.out
        obtain ⟨v1, wd, hrun, ho1, hg1, hk1⟩ := app_word wc 29 _ ws (owns_on RW.out (fun k e => hBc.block k (RW.out.lt k e).2)) W1.heap.size w G7 (by omega)
        obtain ⟨o1, c1, hv1⟩ := slice_of ho1
        rw [show (ws ++ [w]).length = vs.length + 1 by simp [hl]] at hv1
        subst hv1
        have hUd : Upd (fun k => (Value.slice ow vs.length cw).ownBlock = some k ∨ (Value.slice ov vs.length cv).ownBlock = some k) W1 wd := (Upd.of_below hBc).grown hg1 (fun k e => .inl (.inl e))
        have hzc := hBc.size
        have gd : wd.heap[wa.heap.size]? = some (.cells #[.int .i64 kd, .int .i64 vi, .int .u64 0, .string vt, .int .i64 vc] 95 (0, 0)) := (hg1.block _ (Array.getElem?_eq_some_iff.1 G14).1 (fun e => by have := WLT.out _ e.symm; omega)).trans G14
        have ovd := owns_on RV.out (W' := wd) (fun k e => (hg1.block k (by have := (RV.out.lt k e).2; omega) (fun e2 => SP.out.p9 k e2.symm e)).trans (hBc.block k (RV.out.lt k e).2))
        refine anyM_one (i := 8) (by kernel_rfl) rfl rfl (fun K hK => ?_)
        refine opIn_plain (fun c h => by cases h) ?_

        refine Lib.wp_append_run _ (.tmp 30) (.tmp 32) 29 29 rfl _ _ rfl rfl _ _ hrun ?_
        refine hK _ _ ⟨.inr (fun _ => (SS.out _ hUd).1), fun _ => (SS.out _ hUd).2⟩ ?_
        clear hK K hrun
        (try simp only [Act.put, List.getElem_toArray, List.getElem_cons_zero, List.getElem_cons_succ, List.setIfInBounds_toArray, List.set_cons_zero, List.set_cons_succ])
        rw [← FV.out] at gd
        obtain ⟨v2, we, hrun2, ho2, hg2, hk2⟩ := app_vals wd 57 _ vs ovd _ [v] (lit_own wd wa.heap.size [v] (by simp) gd) (by simp; omega)
        obtain ⟨o2, c2, hv2⟩ := slice_of ho2
        rw [show (vs ++ [v]).length = vs.length + 1 by simp] at hv2
        subst hv2
        have hUe : Upd (fun k => (Value.slice ow vs.length cw).ownBlock = some k ∨ (Value.slice ov vs.length cv).ownBlock = some k) W1 we := hUd.grown hg2 (fun k e => .inl (.inr e))
        have nk : ∀ k, (Value.slice o1 (vs.length + 1) c1).ownBlock = some k → (Value.slice ov vs.length cv).ownBlock ≠ some k := fun k e e2 => by
          rcases hk1 k e with e | e
          · exact SP.out.p9 k e e2
          · have := VLT.out k e2
            omega
        have ow1 := owns_on ho1 (W' := we) (fun k e => hg2.block k (ho1.lt k e).2 (fun e2 => nk k e e2.symm))
        have hzd := hUd.size
        have kk1 : ∀ k, (Value.slice o1 (vs.length + 1) c1).ownBlock = some k → (Value.slice ow vs.length cw).ownBlock = some k ∨ b0 + 1 ≤ k := fun k e => (hk1 k e).imp id (fun h => by omega)
        have kk2 : ∀ k, (Value.slice o2 (vs.length + 1) c2).ownBlock = some k → (Value.slice ov vs.length cv).ownBlock = some k ∨ b0 + 1 ≤ k := fun k e => (hk2 k e).imp id (fun h => by omega)
        have kk3 : ∀ k, (Value.slice o1 (vs.length + 1) c1).ownBlock = some k → (Value.slice o2 (vs.length + 1) c2).ownBlock ≠ some k := fun k e e2 => by
          rcases hk2 k e2 with e3 | e3
          · exact nk k e e3
          · have := (ho1.lt k e).2
            omega
        refine anyM_one (i := 15) (by kernel_rfl) rfl rfl (fun K hK => ?_)
        refine opIn_plain (fun c h => by cases h) ?_
        refine Lib.wp_append_run _ (.tmp 37) (.tmp 39) 57 57 rfl _ _ rfl rfl _ _ hrun2 ?_
        refine hK _ _ ⟨.inr (fun _ => (SS.out _ hUe).1), fun _ => (SS.out _ hUe).2⟩ ?_
        clear hK K hrun2
        (try simp only [Act.put, List.getElem_toArray, List.getElem_cons_zero, List.getElem_cons_succ, List.setIfInBounds_toArray, List.set_cons_zero, List.set_cons_succ])
        refine anyM_same (by kernel_rfl) ?_ (TAIL _ _ ⟨.slice (some ⟨W1.heap.size, 0, none⟩) 1 1, o1, c1, .slice (some ⟨wa.heap.size, 0, none⟩) 1 1, o2, c2, rfl, hUe, ow1, ho2, kk1, kk2, kk3⟩)
        (try simp only [Act.put, List.getElem_toArray, List.getElem_cons_zero, List.getElem_cons_succ, List.setIfInBounds_toArray, List.set_cons_zero, List.set_cons_succ])
    · go_simp
      have hBa : Below W1.heap.size W1 (W1.alloc (.cells #[.int .i64 kd, .int .i64 vi, .int .u64 0, .string vt, .int .i64 vc] 95)).drew := ((Below.refl _ W1).alloc (Nat.le_refl _) _).drew
      have ga : (W1.alloc (.cells #[.int .i64 kd, .int .i64 vi, .int .u64 0, .string vt, .int .i64 vc] 95)).drew.heap[W1.heap.size]? = some (.cells #[.int .i64 kd, .int .i64 vi, .int .u64 0, .string vt, .int .i64 vc] 95) := World.alloc_heap_new W1 (.cells #[.int .i64 kd, .int .i64 vi, .int .u64 0, .string vt, .int .i64 vc] 95)
      have za : (W1.alloc (.cells #[.int .i64 kd, .int .i64 vi, .int .u64 0, .string vt, .int .i64 vc] 95)).drew.heap.size = W1.heap.size + 1 := World.size_alloc W1 _
      refine hK _ _ ⟨.inr (fun _ => (SS.out _ (Upd.of_below hBa)).1), fun _ => (SS.out _ (Upd.of_below hBa)).2⟩ ?_
      clear hK K
      (try simp only [Act.put, List.getElem_toArray, List.getElem_cons_zero, List.getElem_cons_succ, List.setIfInBounds_toArray, List.set_cons_zero, List.set_cons_succ])
      generalize (W1.alloc (.cells #[.int .i64 kd, .int .i64 vi, .int .u64 0, .string vt, .int .i64 vc] 95)).drew = wa at *
      have ZA := hid za
      clear za
      refine anyM_one (i := 7) (by kernel_rfl) rfl rfl (fun K hK => ?_)
      go_simp
      have za := ZA.out
      have hBc0 : Below wa.heap.size wa (wa.alloc (.cells #[.int .u64 (w : Nat)] 26)) := (Below.refl _ wa).alloc (Nat.le_refl _) _
      have hBc : Below W1.heap.size W1 (wa.alloc (.cells #[.int .u64 (w : Nat)] 26)) := hBa.trans (hBc0.mono hBa.size)
      have G7 : (wa.alloc (.cells #[.int .u64 (w : Nat)] 26)).heap[wa.heap.size]? = some (.cells #[.int .u64 (w : Nat)] 26) := World.alloc_heap_new wa _
      have G14 : (wa.alloc (.cells #[.int .u64 (w : Nat)] 26)).heap[W1.heap.size]? = some (.cells #[.int .i64 kd, .int .i64 vi, .int .u64 0, .string vt, .int .i64 vc] 95) := (hBc0.block _ (by omega)).trans ga
      refine hK _ _ ⟨.inr (fun _ => (SS.out _ (Upd.of_below hBc)).1), fun _ => (SS.out _ (Upd.of_below hBc)).2⟩ ?_
      clear hK K
      (try simp only [Act.put, List.getElem_toArray, List.getElem_cons_zero, List.getElem_cons_succ, List.setIfInBounds_toArray, List.set_cons_zero, List.set_cons_succ])
      generalize wa.alloc (.cells #[.int .u64 (w : Nat)] 26) = wc at *
      have zz := ZZ.out
      obtain ⟨v1, wd, hrun, ho1, hg1, hk1⟩ := app_word wc 29 _ ws (owns_on RW.out (fun k e => hBc.block k (RW.out.lt k e).2)) wa.heap.size w G7 (by omega)
      obtain ⟨o1, c1, hv1⟩ := slice_of ho1
      rw [show (ws ++ [w]).length = vs.length + 1 by simp [hl]] at hv1
      subst hv1
      have hUd : Upd (fun k => (Value.slice ow vs.length cw).ownBlock = some k ∨ (Value.slice ov vs.length cv).ownBlock = some k) W1 wd := (Upd.of_below hBc).grown hg1 (fun k e => .inl (.inl e))
      have hzc := hBc.size
      have gd : wd.heap[W1.heap.size]? = some (.cells #[.int .i64 kd, .int .i64 vi, .int .u64 0, .string vt, .int .i64 vc] 95 (0, 0)) := (hg1.block _ (Array.getElem?_eq_some_iff.1 G14).1 (fun e => by have := WLT.out _ e.symm; omega)).trans G14
      have ovd := owns_on RV.out (W' := wd) (fun k e => (hg1.block k (by have := (RV.out.lt k e).2; omega) (fun e2 => SP.out.p9 k e2.symm e)).trans (hBc.block k (RV.out.lt k e).2))
      refine anyM_one (i := 8) (by kernel_rfl) rfl rfl (fun K hK => ?_)
      refine opIn_plain (fun c h => by cases h) ?_

      refine Lib.wp_append_run _ (.tmp 30) (.tmp 32) 29 29 rfl _ _ rfl rfl _ _ hrun ?_
      refine hK _ _ ⟨.inr (fun _ => (SS.out _ hUd).1), fun _ => (SS.out _ hUd).2⟩ ?_
      clear hK K hrun
      (try simp only [Act.put, List.getElem_toArray, List.getElem_cons_zero, List.getElem_cons_succ, List.setIfInBounds_toArray, List.set_cons_zero, List.set_cons_succ])
      rw [← FV.out] at gd
      obtain ⟨v2, we, hrun2, ho2, hg2, hk2⟩ := app_vals wd 57 _ vs ovd _ [v] (lit_own wd W1.heap.size [v] (by simp) gd) (by simp; omega)
      obtain ⟨o2, c2, hv2⟩ := slice_of ho2
      rw [show (vs ++ [v]).length = vs.length + 1 by simp] at hv2
      subst hv2
      have hUe : Upd (fun k => (Value.slice ow vs.length cw).ownBlock = some k ∨ (Value.slice ov vs.length cv).ownBlock = some k) W1 we := hUd.grown hg2 (fun k e => .inl (.inr e))
      have nk : ∀ k, (Value.slice o1 (vs.length + 1) c1).ownBlock = some k → (Value.slice ov vs.length cv).ownBlock ≠ some k := fun k e e2 => by
        rcases hk1 k e with e | e
        · exact SP.out.p9 k e e2
        · have := VLT.out k e2
          omega
      have ow1 := owns_on ho1 (W' := we) (fun k e => hg2.block k (ho1.lt k e).2 (fun e2 => nk k e e2.symm))
      have hzd := hUd.size
      have kk1 : ∀ k, (Value.slice o1 (vs.length + 1) c1).ownBlock = some k → (Value.slice ow vs.length cw).ownBlock = some k ∨ b0 + 1 ≤ k := fun k e => (hk1 k e).imp id (fun h => by omega)
      have kk2 : ∀ k, (Value.slice o2 (vs.length + 1) c2).ownBlock = some k → (Value.slice ov vs.length cv).ownBlock = some k ∨ b0 + 1 ≤ k := fun k e => (hk2 k e).imp id (fun h => by omega)
      have kk3 : ∀ k, (Value.slice o1 (vs.length + 1) c1).ownBlock = some k → (Value.slice o2 (vs.length + 1) c2).ownBlock ≠ some k := fun k e e2 => by
        rcases hk2 k e2 with e3 | e3
        · exact nk k e e3
        · have := (ho1.lt k e).2
          omega
      refine anyM_one (i := 15) (by kernel_rfl) rfl rfl (fun K hK => ?_)
      refine opIn_plain (fun c h => by cases h) ?_
      refine Lib.wp_append_run _ (.tmp 37) (.tmp 39) 57 57 rfl _ _ rfl rfl _ _ hrun2 ?_
      refine hK _ _ ⟨.inr (fun _ => (SS.out _ hUe).1), fun _ => (SS.out _ hUe).2⟩ ?_
      clear hK K hrun2
      (try simp only [Act.put, List.getElem_toArray, List.getElem_cons_zero, List.getElem_cons_succ, List.setIfInBounds_toArray, List.set_cons_zero, List.set_cons_succ])
      refine anyM_same (by kernel_rfl) ?_ (TAIL _ _ ⟨.slice (some ⟨wa.heap.size, 0, none⟩) 1 1, o1, c1, .slice (some ⟨W1.heap.size, 0, none⟩) 1 1, o2, c2, rfl, hUe, ow1, ho2, kk1, kk2, kk3⟩)
      (try simp only [Act.put, List.getElem_toArray, List.getElem_cons_zero, List.getElem_cons_succ, List.setIfInBounds_toArray, List.set_cons_zero, List.set_cons_succ])
end
end Go.Proofs.YtndkfjoaiinjoaaGreat.W
