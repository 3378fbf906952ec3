import Derived.Test.YtndkfjoaiinjoaaGreatBase40
/- TextPlays: act, where two are compared. -/
namespace Go.Proofs.YtndkfjoaiinjoaaGreat.W
open Go.ChangeShapes Go.WideShapes Go.RowKit Go.Shelf Si
set_option linter.unusedVariables false
set_option linter.unusedSimpArgs false
section
variable {W W' : World} {pb hb rb : Nat} {lv wv vv : Value} {room : Nat} {L : List Rc} {ws : List Nat} {vs : List Tv} {S : Nat → Prop} {H : List (Option Hc)} {u : Nat}
theorem compare_g (q : HSt W S hb H u) (a b : Nat) (p r : Bool) (i j : Int) (x y : ByteArray) (hx : IsV H a p i x) (hy : IsV H b r j y) (lx : x.size ≤ 100000) (ly : y.size ≤ 100000) :
    Calls Tryz.prog 10 #[.pointer (some ⟨hb, 0, none⟩), .int .u64 a, .int .u64 b] W fun e w' => e = .returned (.tuple #[.int .i64 (cmpW (p || r) x y), .int .i64 (erW (p || r))]) ∧ Below W.heap.size W w' := by
  cases hb' : (p || r) with
  | true => exact compare_no q a b p r i j x y hx hy (by cases p <;> cases r <;> simp_all)
  | false =>
    have hp : p = false := by cases p <;> simp_all
    have hr : r = false := by cases r <;> simp_all
    subst hp
    subst hr
    rcases hx with ⟨h, _⟩ | ⟨_, hx⟩
    · cases h
    · rcases hy with ⟨h, _⟩ | ⟨_, hy⟩
      · cases h
      · exact compare_c q a b x y hx hy (by omega) (by omega)
set_option maxRecDepth 100000 in
set_option maxHeartbeats 2000000 in
theorem act_six (h : Tpl W pb hb rb lv wv vv room L ws vs) (x : A8) (hx : x.wf W) (hl : x.l ≤ 1100000) (hi : aliveB L vs x.i = true) (hk : aliveB L vs x.k = true) (hw : x.what = 6) (n : Nat) (v : Tv) (y : Nat) (hn : x.i = n) (hv : vs[n]? = some v) (hy : ws[n]? = some y) (hiv : IsV H y v.whole v.i v.t) (hts : v.t.size ≤ 100000) (n' : Nat) (v' : Tv) (y' : Nat) (hn' : x.k = n') (hv' : vs[n']? = some v') (hy' : ws[n']? = some y') (hiv' : IsV H y' v'.whole v'.i v'.t) (hts' : v'.t.size ≤ 100000) (q : HSt W S hb H u) :
    Calls Tryz.prog 18 #[.pointer (some ⟨pb, 0, none⟩), .agg #[.int .i64 x.what, .string x.text, .int .i64 x.int, .int .i64 x.i, .int .i64 x.k, .int .i64 x.a, .int .i64 x.b, .slice x.o x.l x.c]] W fun e w' => e = .returned (.bool true) ∧ Below W.heap.size W w' := by
  have hB1 : Below W.heap.size W (W.alloc (.cells #[.int .i64 x.what, .string x.text, .int .i64 x.int, .int .i64 x.i, .int .i64 x.k, .int .i64 x.a, .int .i64 x.b, .slice x.o x.l x.c] 62)) := (Below.refl _ W).alloc (Nat.le_refl _) _
  have hN1 := World.alloc_heap_new W (.cells #[.int .i64 x.what, .string x.text, .int .i64 x.int, .int .i64 x.i, .int .i64 x.k, .int .i64 x.a, .int .i64 x.b, .slice x.o x.l x.c] 62)
  have hz1 : (W.alloc (.cells #[.int .i64 x.what, .string x.text, .int .i64 x.int, .int .i64 x.i, .int .i64 x.k, .int .i64 x.a, .int .i64 x.b, .slice x.o x.l x.c] 62)).heap.size = W.heap.size + 1 := World.size_alloc ..
  have hw7 : ∀ j, j < x.l → ∃ a, x.o = some a ∧ (W.alloc (.cells #[.int .i64 x.what, .string x.text, .int .i64 x.int, .int .i64 x.i, .int .i64 x.k, .int .i64 x.a, .int .i64 x.b, .slice x.o x.l x.c] 62)).cell? (a.add j) = some (.int .i64 (x.N j)) := fun j hj => by
    obtain ⟨a, h1, h2⟩ := hx.2.2.2.2.2.2 j hj
    exact ⟨a, h1, below_cell hB1 h2⟩
  have cr := roots_c (h.below hB1) x.o x.l x.c x.N hw7 hl
  have cI := hid (show ∀ w, Below W.heap.size W w → Calls Tryz.prog 19 #[.pointer (some ⟨pb, 0, none⟩), .int .i64 x.i] w fun e w' => e = .returned (.bool (aliveB L vs x.i)) ∧ Below w.heap.size w w' from fun w hB => alive_c (h.below hB) x.i)
  have cK := hid (show ∀ w, Below W.heap.size W w → Calls Tryz.prog 19 #[.pointer (some ⟨pb, 0, none⟩), .int .i64 x.k] w fun e w' => e = .returned (.bool (aliveB L vs x.k)) ∧ Below w.heap.size w w' from fun w hB => alive_c (h.below hB) x.k)
  have GG := hid (show ∀ w, Below (W.alloc (.cells #[.int .i64 x.what, .string x.text, .int .i64 x.int, .int .i64 x.i, .int .i64 x.k, .int .i64 x.a, .int .i64 x.b, .slice x.o x.l x.c] 62)).heap.size (W.alloc (.cells #[.int .i64 x.what, .string x.text, .int .i64 x.int, .int .i64 x.i, .int .i64 x.k, .int .i64 x.a, .int .i64 x.b, .slice x.o x.l x.c] 62)) w → Below W.heap.size W w ∧ w.heap[W.heap.size]? = some (.cells #[.int .i64 x.what, .string x.text, .int .i64 x.int, .int .i64 x.i, .int .i64 x.k, .int .i64 x.a, .int .i64 x.b, .slice x.o x.l x.c] 62 (0, 0)) from fun w hw => ⟨hB1.trans (hw.mono hB1.size), (hw.block _ (by omega)).trans hN1⟩)
  have c7 : (W.alloc (.cells #[.int .i64 x.what, .string x.text, .int .i64 x.int, .int .i64 x.i, .int .i64 x.k, .int .i64 x.a, .int .i64 x.b, .slice x.o x.l x.c] 62)).cell? ⟨W.heap.size, 7, none⟩ = some (.slice x.o x.l x.c) := cell_of_row _ _ 7 _ _ _ hN1
  obtain ⟨gw, gv, cw, cv, tr⟩ := h.tr hv hy
  have hnm := (List.getElem?_eq_some_iff.1 hv).1
  have TR := hid (show ∀ w, Below W.heap.size W w → Tr8 w pb hb gw gv n vs.length cw cv y v from fun w hB => tr.below hB)
  obtain ⟨gw', gv', cw', cv', tr'⟩ := h.tr hv' hy'
  have hnm' := (List.getElem?_eq_some_iff.1 hv').1
  have eqs : gw' = gw ∧ cw' = cw ∧ gv' = gv ∧ cv' = cv := by
    have e1 := tr.p2.symm.trans tr'.p2
    have e2 := tr.p3.symm.trans tr'.p3
    simp at e1 e2
    exact ⟨e1.1.symm, e1.2.symm, e2.1.symm, e2.2.symm⟩
  obtain ⟨rfl, rfl, rfl, rfl⟩ := eqs
  have TR' := hid (show ∀ w, Below W.heap.size W w → Tr8 w pb hb gw' gv' n' vs.length cw' cv' y' v' from fun w hB => tr'.below hB)
  have cB := hid (show ∀ w, Below W.heap.size W w → ∀ p : TBW w, Calls Tryz.prog 10 #[.pointer (some ⟨hb, 0, none⟩), .int .u64 y, .int .u64 y'] p.w' fun e w'' => e = .returned (.tuple #[.int .i64 (cmpW (v.whole || v'.whole) v.t v'.t), .int .i64 (erW (v.whole || v'.whole))]) ∧ ∃ p' : TBW w, w'' = p'.w' from fun w hB p => TBW.calls (p := p) (compare_g ((q.below hB).below p.h) y y' v.whole v'.whole v.i v'.i v.t v'.t hiv hiv' hts hts'))
  have c8 := fun (w : World) (p : TBW w) => TBW.calls (p := p) (compare8_c v.whole v'.whole v.i v.cell v'.i v'.cell v.t v'.t hts hts' p.w')
  have o3 : (0 : Int) ≤ n' := Int.natCast_nonneg _
  have o4 : (n' : Int) < vs.length := by omega
  have o1 : (0 : Int) ≤ n := Int.natCast_nonneg _
  have o2 : (n : Int) < vs.length := by omega
  rw [hi] at cI
  rw [hk] at cK
  clear hw7 hx hl hN1 hz1 hB1 h q hi hk hv hy hiv hts hv' hy' hiv' hts' tr tr' hnm hnm'
  obtain ⟨xw, xt, xi, xI, xk, xa, xb, xo, xl, xc, xN⟩ := x
  simp only at *
  subst hw
  subst hn
  subst hn'
  go_enter Tryz.func18, Tryz.ntmps18
  go_upto_region 1 with fail
  generalize W.alloc (.cells #[.int .i64 6, .string xt, .int .i64 xi, .int .i64 n, .int .i64 n', .int .i64 xa, .int .i64 xb, .slice xo xl xc] 62) = W1 at *
  go_upto_region 2 with (go_at_call 40; (with_reducible refine cr.mono ?_); rintro e w2 ⟨v1, v2, rfl, hB2, -⟩; clear cr)
  obtain ⟨hBW, g2⟩ := GG.out w2 hB2
  have e0 : w2.cell? ⟨W.heap.size, 0, none⟩ = some (.int .i64 6) := cell_of_row _ _ 0 _ _ _ g2
  have e3 : w2.cell? ⟨W.heap.size, 3, none⟩ = some (.int .i64 n) := cell_of_row _ _ 3 _ _ _ g2
  have e4 : w2.cell? ⟨W.heap.size, 4, none⟩ = some (.int .i64 n') := cell_of_row _ _ 4 _ _ _ g2
  have HK := hid (show ∀ w3, Below w2.heap.size w2 w3 → w3.cell? ⟨W.heap.size, 4, none⟩ = some (.int .i64 n') ∧ Below W.heap.size W w3 from fun w3 hB3 => ⟨below_cell hB3 e4, hBW.trans (hB3.mono hBW.size)⟩)
  have HZ := hid (show ∀ w3, Below w2.heap.size w2 w3 → w3.cell? ⟨W.heap.size, 0, none⟩ = some (.int .i64 6) ∧ w3.cell? ⟨W.heap.size, 3, none⟩ = some (.int .i64 n) from fun w3 hB3 => ⟨below_cell hB3 e0, below_cell hB3 e3⟩)
  have ca := cI.out w2 hBW
  clear c7 g2 hB2 GG cI e4
  go_upto_region 27 with (go_at_call 19; first | ((with_reducible refine ca.mono ?_); rintro e w3 ⟨rfl, hB3⟩; (obtain ⟨e4, hB4⟩ := HK.out w3 hB3); (have cb := cK.out w3 hB4); clear ca cK) | ((with_reducible refine cb.mono ?_); rintro e w5 ⟨rfl, hB5⟩; (have hB25 := hB3.trans (hB5.mono hB3.size)); (obtain ⟨f4, hB6⟩ := HK.out w5 hB25); (obtain ⟨f0, f3⟩ := HZ.out w5 hB25); clear cb HK HZ hB25))
  have t5 := TR.out w5 hB6
  have t5' := TR'.out w5 hB6
  have cb := cB.out w5 hB6
  clear e0 e3 e4 f0 hB3 hB4 hB5 cB
  have inst : Nonempty (TBW w5) := ⟨⟨_, Below.refl _ _⟩⟩
  have a0 := TBW.cell t5.p0
  have a2 := TBW.cell t5.p2
  have aw := TBW.cell t5.w0
  have a3 := TBW.cell f3
  have a5 := TBW.cell f4
  have aw' := TBW.cell t5'.w0
  refine tbw_region (by kernel_rfl) (by kernel_rfl) ?_
  repeat (go_big_quiet_step ((go_at_call 10; exact cb _)))
  refine wpQuiet_nil ?_
  intro _ hw'
  obtain ⟨pw, hw''⟩ := hw'
  subst hw''
  have hB7 := hB6.trans (pw.h.mono hB6.size)
  have g3 := below_cell pw.h f3
  have g5 := below_cell pw.h f4
  generalize pw.w' = w7 at *
  clear a0 a2 aw aw' a3 a5 inst cb f3 f4 t5 t5' pw
  have t7 := TR.out w7 hB7
  have t7' := TR'.out w7 hB7
  go_upto_region 28 with fail
  have inst : Nonempty (TBW w7) := ⟨⟨_, Below.refl _ _⟩⟩
  have a0 := TBW.cell t7.p3
  have a3 := TBW.cell g3
  have a5 := TBW.cell g5
  have b0 := TBW.cell t7.v0
  have b1 := TBW.cell t7.v1
  have b2 := TBW.cell t7.v2
  have b3 := TBW.cell t7.v3
  have b4 := TBW.cell t7.v4
  have d0 := TBW.cell t7'.v0
  have d1 := TBW.cell t7'.v1
  have d2 := TBW.cell t7'.v2
  have d3 := TBW.cell t7'.v3
  have d4 := TBW.cell t7'.v4
  have cc := c8 w7
  clear t7 t7' g3 g5 TR TR' c8
  generalize cmpW (v.whole || v'.whole) v.t v'.t = bw at *
  generalize erW (v.whole || v'.whole) = bf at *
  refine tbw_region (by kernel_rfl) (by kernel_rfl) ?_
  repeat (go_big_quiet_step ((go_at_call 47; exact cc _)))
  refine wpQuiet_nil ?_
  intro _ hw'
  obtain ⟨pw, hw''⟩ := hw'
  subst hw''
  have hB8 := hid (hB7.trans (pw.h.mono hB7.size))
  clear a0 a3 a5 b0 b1 b2 b3 b4 d0 d1 d2 d3 d4 cc inst
  go_wp2
  go_ret
  exact ⟨by simp, hB8.out⟩
end
end Go.Proofs.YtndkfjoaiinjoaaGreat.W
/- TextPlays: act, where a string is made. -/
namespace Go.Proofs.YtndkfjoaiinjoaaGreat.W
open Go.ChangeShapes Go.WideShapes Go.RowKit Go.Shelf Si
set_option linter.unusedVariables false
set_option linter.unusedSimpArgs false
/-- what is made of the reference's answer -/
def Made (F2 : FuncId) (args2 : Array Value) (pb : Nat) (K : Nat → Prop) (Goal : World → Prop) (a b : Int) (w3 : World) : Prop :=
  ∀ w3', Below w3.heap.size w3 w3' → Calls Tryz.prog F2 args2 w3' (fun e2 w4 => ∃ (a0 a1 : Int) (a3 : ByteArray) (a4 : Int), e2 = .returned (.tuple #[.agg #[.int .i64 a0, .int .i64 a1, .int .u64 0, .string a3, .int .i64 a4], .int .i64 b]) ∧ (∀ k, K k → w4.heap[k]? = w3'.heap[k]?) ∧ Upd (fun k => k < w3.heap.size) w3' w4 ∧ ∀ w5, Upd (fun k => w3.heap.size ≤ k ∧ k < w3'.heap.size) w4 w5 → Calls Tryz.prog 42 #[.pointer (some ⟨pb, 0, none⟩), .int .u64 a, .int .i64 b, .agg #[.int .i64 a0, .int .i64 a1, .int .u64 0, .string a3, .int .i64 a4], .int .i64 b] w5 (fun e w6 => e = .returned (.bool true) ∧ Goal w6))
/-- both are asked, one behind the other -/
def Asked (F1 : FuncId) (args1 : Array Value) (F2 : FuncId) (args2 : Array Value) (pb : Nat) (K : Nat → Prop) (Goal : World → Prop) (w : World) : Prop :=
  Calls Tryz.prog F1 args1 w (fun e w3 => ∃ (a b : Int), e = .returned (.tuple #[.int .u64 a, .int .i64 b]) ∧ (∀ k, K k → w3.heap[k]? = w.heap[k]?) ∧ Made F2 args2 pb K Goal a b w3)
theorem alloc_then {D : Nat → Prop} {w w6 : World} {o : Obj} (h : Upd (fun k => k = w.heap.size) (w.alloc o) w6) : Upd D w w6 :=
  ((Upd.refl D w).alloc o).trans (h.mono (fun k e => .inr ⟨by omega, by rw [e, World.size_alloc]; omega⟩))
theorem cell_keep {w w' : World} {a : Addr} {v : Value} (h : w.cell? a = some v) (hk : w'.heap[a.block]? = w.heap[a.block]?) : w'.cell? a = some v := by
  simp only [World.cell?] at h ⊢
  rw [hk]
  exact h
theorem cell_lt {w : World} {g o : Nat} {v : Value} (h : w.cell? ⟨g, o, none⟩ = some v) : g < w.heap.size := by
  apply Nat.lt_of_not_le
  intro hle
  have e : w.heap[g]? = none := Array.getElem?_eq_none hle
  simp [World.cell?, e] at h
theorem Tr8.on {W W' : World} {pb hb gw gv n m cw cv w : Nat} {v : Tv} (h : Tr8 W pb hb gw gv n m cw cv w v) (hk : ∀ k, (k = pb ∨ k = gw ∨ k = gv) → W'.heap[k]? = W.heap[k]?) : Tr8 W' pb hb gw gv n m cw cv w v :=
  ⟨cell_keep h.p0 (hk _ (.inl rfl)), cell_keep h.p2 (hk _ (.inl rfl)), cell_keep h.p3 (hk _ (.inl rfl)), cell_keep h.w0 (hk _ (.inr (.inl rfl))), cell_keep h.v0 (hk _ (.inr (.inr rfl))), cell_keep h.v1 (hk _ (.inr (.inr rfl))), cell_keep h.v2 (hk _ (.inr (.inr rfl))), cell_keep h.v3 (hk _ (.inr (.inr rfl))), cell_keep h.v4 (hk _ (.inr (.inr rfl)))⟩
theorem Tpl.tr2 {W : World} {pb hb rb : Nat} {lv wv vv : Value} {room : Nat} {L : List Rc} {ws : List Nat} {vs : List Tv} (h : Tpl W pb hb rb lv wv vv room L ws vs) {n : Nat} {v : Tv} {w : Nat} (hv : vs[n]? = some v) (hw : ws[n]? = some w) : ∃ gw gv cw cv, Tr8 W pb hb gw gv n vs.length cw cv w v ∧ wv.ownBlock = some gw ∧ vv.ownBlock = some gv := by
  obtain ⟨gw, gv, cw, cv, t⟩ := h.tr hv hw
  refine ⟨gw, gv, cw, cv, t, ?_, ?_⟩
  · have e : W.cell? ⟨pb, 2, none⟩ = some wv := cell_of_row _ _ 2 _ _ _ h.blk
    have e2 := e.symm.trans t.p2
    injection e2 with e2
    rw [e2]
    rfl
  · have e : W.cell? ⟨pb, 3, none⟩ = some vv := cell_of_row _ _ 3 _ _ _ h.blk
    have e2 := e.symm.trans t.p3
    injection e2 with e2
    rw [e2]
    rfl
section
variable {W W' : World} {pb hb rb : Nat} {lv wv vv : Value} {room : Nat} {L : List Rc} {ws : List Nat} {vs : List Tv}
set_option maxRecDepth 100000 in
set_option maxHeartbeats 4000000 in
theorem act_one (h : Tpl W pb hb rb lv wv vv room L ws vs) (x : A8) (hx : x.wf W) (hl : x.l ≤ 1100000) (hw : x.what = 1) (Goal : World → Prop)
    (c1 : ∀ w2 v1 v2, Below W.heap.size W w2 → Two (W.alloc (.cells #[.int .i64 x.what, .string x.text, .int .i64 x.int, .int .i64 x.i, .int .i64 x.k, .int .i64 x.a, .int .i64 x.b, .slice x.o x.l x.c] 62)).heap.size w2 v1 v2 (wsel ws (rsel L vs x.N x.l)) (vsel vs (rsel L vs x.N x.l)) → W.heap.size < w2.heap.size → Asked 16 #[.pointer (some ⟨hb, 0, none⟩), .agg #[.int .i64 4, .int .i64 0, .int .u64 0, .string x.text, .int .u64 0], v1] 41 #[.pointer (some ⟨rb, 0, none⟩), .string x.text, v2] pb (fun k => k = pb ∨ k = W.heap.size ∨ wv.ownBlock = some k ∨ vv.ownBlock = some k) Goal w2.drew) :
    Calls Tryz.prog 18 #[.pointer (some ⟨pb, 0, none⟩), .agg #[.int .i64 x.what, .string x.text, .int .i64 x.int, .int .i64 x.i, .int .i64 x.k, .int .i64 x.a, .int .i64 x.b, .slice x.o x.l x.c]] W fun e w' => e = .returned (.bool true) ∧ Goal w' := by
  have hB1 : Below W.heap.size W (W.alloc (.cells #[.int .i64 x.what, .string x.text, .int .i64 x.int, .int .i64 x.i, .int .i64 x.k, .int .i64 x.a, .int .i64 x.b, .slice x.o x.l x.c] 62)) := (Below.refl _ W).alloc (Nat.le_refl _) _
  have hN1 := World.alloc_heap_new W (.cells #[.int .i64 x.what, .string x.text, .int .i64 x.int, .int .i64 x.i, .int .i64 x.k, .int .i64 x.a, .int .i64 x.b, .slice x.o x.l x.c] 62)
  have hz1 : (W.alloc (.cells #[.int .i64 x.what, .string x.text, .int .i64 x.int, .int .i64 x.i, .int .i64 x.k, .int .i64 x.a, .int .i64 x.b, .slice x.o x.l x.c] 62)).heap.size = W.heap.size + 1 := World.size_alloc ..
  have hw7 : ∀ j, j < x.l → ∃ a, x.o = some a ∧ (W.alloc (.cells #[.int .i64 x.what, .string x.text, .int .i64 x.int, .int .i64 x.i, .int .i64 x.k, .int .i64 x.a, .int .i64 x.b, .slice x.o x.l x.c] 62)).cell? (a.add j) = some (.int .i64 (x.N j)) := fun j hj => by
    obtain ⟨a, h1, h2⟩ := hx.2.2.2.2.2.2 j hj
    exact ⟨a, h1, below_cell hB1 h2⟩
  have cr := roots_c (h.below hB1) x.o x.l x.c x.N hw7 hl
  have GG := hid (show ∀ w, Below (W.alloc (.cells #[.int .i64 x.what, .string x.text, .int .i64 x.int, .int .i64 x.i, .int .i64 x.k, .int .i64 x.a, .int .i64 x.b, .slice x.o x.l x.c] 62)).heap.size (W.alloc (.cells #[.int .i64 x.what, .string x.text, .int .i64 x.int, .int .i64 x.i, .int .i64 x.k, .int .i64 x.a, .int .i64 x.b, .slice x.o x.l x.c] 62)) w → Below W.heap.size W w ∧ w.heap[W.heap.size]? = some (.cells #[.int .i64 x.what, .string x.text, .int .i64 x.int, .int .i64 x.i, .int .i64 x.k, .int .i64 x.a, .int .i64 x.b, .slice x.o x.l x.c] 62 (0, 0)) ∧ w.heap[pb]? = some (.cells #[.pointer (some ⟨hb, 0, none⟩), .pointer (some ⟨rb, 0, none⟩), wv, vv] 59 (0, 0)) from fun w hw => ⟨hB1.trans (hw.mono hB1.size), (hw.block _ (by omega)).trans hN1, ((hB1.trans (hw.mono hB1.size)).block _ (h.lt pb (.inl rfl))).trans h.blk⟩)
  have c7 : (W.alloc (.cells #[.int .i64 x.what, .string x.text, .int .i64 x.int, .int .i64 x.i, .int .i64 x.k, .int .i64 x.a, .int .i64 x.b, .slice x.o x.l x.c] 62)).cell? ⟨W.heap.size, 7, none⟩ = some (.slice x.o x.l x.c) := cell_of_row _ _ 7 _ _ _ hN1
  have C1 := hid c1
  clear hw7 hx hl hN1 hz1 hB1 h c1
  obtain ⟨xw, xt, xi, xI, xk, xa, xb, xo, xl, xc, xN⟩ := x
  simp only at *
  subst hw
  go_enter Tryz.func18, Tryz.ntmps18
  go_upto_region 1 with fail
  generalize W.alloc (.cells #[.int .i64 1, .string xt, .int .i64 xi, .int .i64 xI, .int .i64 xk, .int .i64 xa, .int .i64 xb, .slice xo xl xc] 62) = W1 at *
  go_upto_region 2 with (go_at_call 40; (with_reducible refine cr.mono ?_); rintro e w2 ⟨v1, v2, rfl, hB2, h2⟩; clear cr)
  obtain ⟨hBW, g2, g3⟩ := GG.out w2 hB2
  have e0 : w2.cell? ⟨W.heap.size, 0, none⟩ = some (.int .i64 1) := cell_of_row _ _ 0 _ _ _ g2
  have CC := hid (C1.out w2 v1 v2 hBW h2 (Array.getElem?_eq_some_iff.1 g2).1)
  unfold Asked at CC
  have G2 := hid g2
  have G3 := hid g3
  generalize W.heap.size = b0 at *
  have HS1 := hid (show w2.drew.cell? ⟨pb, 0, none⟩ = some (.pointer (some ⟨hb, 0, none⟩)) ∧ w2.drew.cell? ⟨b0, 1, none⟩ = some (.string xt) from ⟨cell_of_row w2 _ 0 _ _ _ G3.out, cell_of_row w2 _ 1 _ _ _ G2.out⟩)
  clear c7 g2 g3 hB2 GG C1 hBW h2
  go_upto_region 4 with fail
  refine wp_region_noPanic ?_
  refine plain_anyM (z := [8]) (S := fun _ => True) (T := fun w' => w'.cell? ⟨pb, 0, none⟩ = some (.pointer (some ⟨hb, 0, none⟩)) ∧ w'.cell? ⟨b0, 1, none⟩ = some (.string xt)) (by kernel_rfl) ?_
  have hT := HS1.out
  (refine anyM_take0 (i := 0) (v := ?_) rfl (by kernel_rfl) (by kernel_rfl) (by kernel_rfl) (fun _ _ _ h => h) (Or.inl ⟨by rfl, ?_⟩) ?_); rotate_left; (focus (intro w' hSw; go_simp; (try with_reducible rfl))); (try simp only [Act.put, List.getElem_toArray, List.getElem_cons_zero, List.getElem_cons_succ, List.setIfInBounds_toArray, List.set_cons_zero, List.set_cons_succ])
  (refine anyM_take0 (i := 1) (v := ?_) rfl (by kernel_rfl) (by kernel_rfl) (by kernel_rfl) (fun _ _ _ h => h) (Or.inl ⟨by rfl, ?_⟩) ?_); rotate_left; (focus (intro w' hSw; go_simp; (try with_reducible rfl))); (try simp only [Act.put, List.getElem_toArray, List.getElem_cons_zero, List.getElem_cons_succ, List.setIfInBounds_toArray, List.set_cons_zero, List.set_cons_succ])
  (refine anyM_take0 (i := 2) (v := ?_) rfl (by kernel_rfl) (by kernel_rfl) (by kernel_rfl) (fun _ _ _ h => h) (Or.inl ⟨by rfl, ?_⟩) ?_); rotate_left; (focus (intro w' hSw; go_simp; (try with_reducible rfl))); (try simp only [Act.put, List.getElem_toArray, List.getElem_cons_zero, List.getElem_cons_succ, List.setIfInBounds_toArray, List.set_cons_zero, List.set_cons_succ])
  (refine anyM_take1 (i := 3) (v := ?_) rfl (by kernel_rfl) (by kernel_rfl) (by kernel_rfl) (fun _ _ _ h => h) (Or.inl ⟨by rfl, ?_⟩) hT ?_); rotate_left; (focus (intro w' hSw; obtain ⟨q1, q2⟩ := hSw; go_simp; (try with_reducible rfl))); (try simp only [Act.put, List.getElem_toArray, List.getElem_cons_zero, List.getElem_cons_succ, List.setIfInBounds_toArray, List.set_cons_zero, List.set_cons_succ])
  (refine anyM_take0 (i := 4) (v := ?_) rfl (by kernel_rfl) (by kernel_rfl) (by kernel_rfl) (fun _ _ _ h => h) (Or.inl ⟨by rfl, ?_⟩) ?_); rotate_left; (focus (intro w' hSw; go_simp; (try with_reducible rfl))); (try simp only [Act.put, List.getElem_toArray, List.getElem_cons_zero, List.getElem_cons_succ, List.setIfInBounds_toArray, List.set_cons_zero, List.set_cons_succ])
  (refine anyM_take1 (i := 5) (v := ?_) rfl (by kernel_rfl) (by kernel_rfl) (by kernel_rfl) (fun _ _ _ h => h) (Or.inl ⟨by rfl, ?_⟩) hT ?_); rotate_left; (focus (intro w' hSw; obtain ⟨q1, q2⟩ := hSw; go_simp; (try with_reducible rfl))); (try simp only [Act.put, List.getElem_toArray, List.getElem_cons_zero, List.getElem_cons_succ, List.setIfInBounds_toArray, List.set_cons_zero, List.set_cons_succ])
  (refine anyM_take0 (i := 6) (v := ?_) rfl (by kernel_rfl) (by kernel_rfl) (by kernel_rfl) (fun _ _ _ h => h) (Or.inl ⟨by rfl, ?_⟩) ?_); rotate_left; (focus (intro w' hSw; go_simp; (try with_reducible rfl))); (try simp only [Act.put, List.getElem_toArray, List.getElem_cons_zero, List.getElem_cons_succ, List.setIfInBounds_toArray, List.set_cons_zero, List.set_cons_succ])
  (refine anyM_take0 (i := 7) (v := ?_) rfl (by kernel_rfl) (by kernel_rfl) (by kernel_rfl) (fun _ _ _ h => h) (Or.inl ⟨by rfl, ?_⟩) ?_); rotate_left; (focus (intro w' hSw; go_simp; (try with_reducible rfl))); (try simp only [Act.put, List.getElem_toArray, List.getElem_cons_zero, List.getElem_cons_succ, List.setIfInBounds_toArray, List.set_cons_zero, List.set_cons_succ])
  clear hT
  have cc := CC.out
  refine anyM_one (i := 8) (by kernel_rfl) rfl rfl (fun K hK => ?_)
  go_simp
  refine ⟨trivial, (callsIn_wide.2 cc).mono ?_⟩
  rintro e w3 ⟨av, ab, rfl, hk3, hm⟩
  refine hK _ _ ⟨.inl rfl, fun hh => ⟨cell_keep hh.1 (hk3 _ (.inl rfl)), cell_keep hh.2 (hk3 _ (.inr (.inl rfl)))⟩⟩ ?_
  clear hK K cc
  (try simp only [Act.put, List.getElem_toArray, List.getElem_cons_zero, List.getElem_cons_succ, List.setIfInBounds_toArray, List.set_cons_zero, List.set_cons_succ])
  (refine anyM_take0 (i := 9) (v := ?_) rfl (by kernel_rfl) (by kernel_rfl) (by kernel_rfl) (fun _ _ _ h => h) (Or.inl ⟨by rfl, ?_⟩) ?_); rotate_left; (focus (intro w' hSw; go_simp; (try with_reducible rfl))); (try simp only [Act.put, List.getElem_toArray, List.getElem_cons_zero, List.getElem_cons_succ, List.setIfInBounds_toArray, List.set_cons_zero, List.set_cons_succ])
  (refine anyM_take0 (i := 10) (v := ?_) rfl (by kernel_rfl) (by kernel_rfl) (by kernel_rfl) (fun _ _ _ h => h) (Or.inl ⟨by rfl, ?_⟩) ?_); rotate_left; (focus (intro w' hSw; go_simp; (try with_reducible rfl))); (try simp only [Act.put, List.getElem_toArray, List.getElem_cons_zero, List.getElem_cons_succ, List.setIfInBounds_toArray, List.set_cons_zero, List.set_cons_succ])
  (refine anyM_take0 (i := 11) (v := ?_) rfl (by kernel_rfl) (by kernel_rfl) (by kernel_rfl) (fun _ _ _ h => h) (Or.inl ⟨by rfl, ?_⟩) ?_); rotate_left; (focus (intro w' hSw; go_simp; (try with_reducible rfl))); (try simp only [Act.put, List.getElem_toArray, List.getElem_cons_zero, List.getElem_cons_succ, List.setIfInBounds_toArray, List.set_cons_zero, List.set_cons_succ])
  (refine anyM_take0 (i := 12) (v := ?_) rfl (by kernel_rfl) (by kernel_rfl) (by kernel_rfl) (fun _ _ _ h => h) (Or.inl ⟨by rfl, ?_⟩) ?_); rotate_left; (focus (intro w' hSw; go_simp; (try with_reducible rfl))); (try simp only [Act.put, List.getElem_toArray, List.getElem_cons_zero, List.getElem_cons_succ, List.setIfInBounds_toArray, List.set_cons_zero, List.set_cons_succ])
  (refine anyM_take0 (i := 13) (v := ?_) rfl (by kernel_rfl) (by kernel_rfl) (by kernel_rfl) (fun _ _ _ h => h) (Or.inl ⟨by rfl, ?_⟩) ?_); rotate_left; (focus (intro w' hSw; go_simp; (try with_reducible rfl))); (try simp only [Act.put, List.getElem_toArray, List.getElem_cons_zero, List.getElem_cons_succ, List.setIfInBounds_toArray, List.set_cons_zero, List.set_cons_succ])
  refine anyM_done (by kernel_rfl) ?_ _
  refine NoPanic.normal ?_
  have HM := hid hm
  have HK3 := hid hk3
  clear hm hk3
  have k1 := (HK3.out pb (.inl rfl)).trans G3.out
  have k2 := (HK3.out b0 (.inr (.inl rfl))).trans G2.out
  have HS2 := hid (show w3.drew.cell? ⟨pb, 1, none⟩ = some (.pointer (some ⟨rb, 0, none⟩)) ∧ w3.drew.cell? ⟨b0, 1, none⟩ = some (.string xt) from ⟨cell_of_row w3 _ 1 _ _ _ k1, cell_of_row w3 _ 1 _ _ _ k2⟩)
  have LT := hid (show pb < w3.heap.size ∧ b0 < w3.heap.size from ⟨(Array.getElem?_eq_some_iff.1 k1).1, (Array.getElem?_eq_some_iff.1 k2).1⟩)
  clear k1 k2 HK3 G2 G3 HS1 CC e0
  go_upto_region 5 with fail
  refine wp_region_noPanic ?_
  refine plain_anyM (z := [7, 12]) (S := fun _ => True) (T := fun w' => w'.cell? ⟨pb, 1, none⟩ = some (.pointer (some ⟨rb, 0, none⟩)) ∧ w'.cell? ⟨b0, 1, none⟩ = some (.string xt)) (by kernel_rfl) ?_
  have hT := HS2.out
  (refine anyM_take0 (i := 0) (v := ?_) rfl (by kernel_rfl) (by kernel_rfl) (by kernel_rfl) (fun _ _ _ h => h) (Or.inl ⟨by rfl, ?_⟩) ?_); rotate_left; (focus (intro w' hSw; go_simp; (try with_reducible rfl))); (try simp only [Act.put, List.getElem_toArray, List.getElem_cons_zero, List.getElem_cons_succ, List.setIfInBounds_toArray, List.set_cons_zero, List.set_cons_succ])
  (refine anyM_take0 (i := 1) (v := ?_) rfl (by kernel_rfl) (by kernel_rfl) (by kernel_rfl) (fun _ _ _ h => h) (Or.inl ⟨by rfl, ?_⟩) ?_); rotate_left; (focus (intro w' hSw; go_simp; (try with_reducible rfl))); (try simp only [Act.put, List.getElem_toArray, List.getElem_cons_zero, List.getElem_cons_succ, List.setIfInBounds_toArray, List.set_cons_zero, List.set_cons_succ])
  (refine anyM_take0 (i := 2) (v := ?_) rfl (by kernel_rfl) (by kernel_rfl) (by kernel_rfl) (fun _ _ _ h => h) (Or.inl ⟨by rfl, ?_⟩) ?_); rotate_left; (focus (intro w' hSw; go_simp; (try with_reducible rfl))); (try simp only [Act.put, List.getElem_toArray, List.getElem_cons_zero, List.getElem_cons_succ, List.setIfInBounds_toArray, List.set_cons_zero, List.set_cons_succ])
  (refine anyM_take1 (i := 3) (v := ?_) rfl (by kernel_rfl) (by kernel_rfl) (by kernel_rfl) (fun _ _ _ h => h) (Or.inl ⟨by rfl, ?_⟩) hT ?_); rotate_left; (focus (intro w' hSw; obtain ⟨q1, q2⟩ := hSw; go_simp; (try with_reducible rfl))); (try simp only [Act.put, List.getElem_toArray, List.getElem_cons_zero, List.getElem_cons_succ, List.setIfInBounds_toArray, List.set_cons_zero, List.set_cons_succ])
  (refine anyM_take0 (i := 4) (v := ?_) rfl (by kernel_rfl) (by kernel_rfl) (by kernel_rfl) (fun _ _ _ h => h) (Or.inl ⟨by rfl, ?_⟩) ?_); rotate_left; (focus (intro w' hSw; go_simp; (try with_reducible rfl))); (try simp only [Act.put, List.getElem_toArray, List.getElem_cons_zero, List.getElem_cons_succ, List.setIfInBounds_toArray, List.set_cons_zero, List.set_cons_succ])
  (refine anyM_take1 (i := 5) (v := ?_) rfl (by kernel_rfl) (by kernel_rfl) (by kernel_rfl) (fun _ _ _ h => h) (Or.inl ⟨by rfl, ?_⟩) hT ?_); rotate_left; (focus (intro w' hSw; obtain ⟨q1, q2⟩ := hSw; go_simp; (try with_reducible rfl))); (try simp only [Act.put, List.getElem_toArray, List.getElem_cons_zero, List.getElem_cons_succ, List.setIfInBounds_toArray, List.set_cons_zero, List.set_cons_succ])
  (refine anyM_take0 (i := 6) (v := ?_) rfl (by kernel_rfl) (by kernel_rfl) (by kernel_rfl) (fun _ _ _ h => h) (Or.inl ⟨by rfl, ?_⟩) ?_); rotate_left; (focus (intro w' hSw; go_simp; (try with_reducible rfl))); (try simp only [Act.put, List.getElem_toArray, List.getElem_cons_zero, List.getElem_cons_succ, List.setIfInBounds_toArray, List.set_cons_zero, List.set_cons_succ])
  clear hT
  refine anyM_cut (fun a0' a' w' => ∃ (a0 a1 : Int) (a3 : ByteArray) (a4 : Int) (g : Nat), w3.heap.size ≤ g ∧ a' = ((((a0'.put (some 62) (.tuple #[.agg #[.int .i64 a0, .int .i64 a1, .int .u64 0, .string a3, .int .i64 a4], .int .i64 ab])).put (some 54) (.tuple #[.agg #[.int .i64 a0, .int .i64 a1, .int .u64 0, .string a3, .int .i64 a4], .int .i64 ab])).put (some 63) (.agg #[.int .i64 a0, .int .i64 a1, .int .u64 0, .string a3, .int .i64 a4])).put (some 64) (.int .i64 ab)).put (some 9) (.pointer (some ⟨g, 0, none⟩)) ∧ w'.heap[g]? = some (.cells #[.int .i64 0, .int .i64 0, .int .u64 0, .string ⟨#[]⟩, .int .i64 0] 95 (0, 0)) ∧ Hid (∀ w6, Upd (fun k => k = g) w' w6 → Calls Tryz.prog 42 #[.pointer (some ⟨pb, 0, none⟩), .int .u64 av, .int .i64 ab, .agg #[.int .i64 a0, .int .i64 a1, .int .u64 0, .string a3, .int .i64 a4], .int .i64 ab] w6 (fun e w7 => e = .returned (.bool true) ∧ Goal w7))) 2 #[true, true, true, true, true, true, true, true, true, true, true, true, false, false] ?tail (fun TAIL => ?main)
  case tail =>
    rintro a' w5 ⟨a0, a1, a3, a4, g, hg0, rfl, g5, HG⟩
    (try simp only [Act.put, List.getElem_toArray, List.getElem_cons_zero, List.getElem_cons_succ, List.setIfInBounds_toArray, List.set_cons_zero, List.set_cons_succ])
    refine anyM_one (i := 12) (by kernel_rfl) rfl rfl (fun K hK => ?_)
    have d0 := fun j => cell_of_row w5 _ j _ _ _ g5
    have zR : ∀ j, w5.frozen? ⟨g, j, none⟩ = false := fun j => by simp only [World.frozen?, g5]; simp
    go_simp
    refine hK _ _ ⟨.inl rfl, fun hh => ⟨cell_keep hh.1 (five_far (gb := g) (k := pb) (by have := LT.out; omega) _ _ _ _ _), cell_keep hh.2 (five_far (gb := g) (k := b0) (by have := LT.out; omega) _ _ _ _ _)⟩⟩ ?_
    clear hK K d0 zR
    (try simp only [Act.put, List.getElem_toArray, List.getElem_cons_zero, List.getElem_cons_succ, List.setIfInBounds_toArray, List.set_cons_zero, List.set_cons_succ])
    refine anyM_one (i := 13) (by kernel_rfl) rfl rfl (fun K hK => ?_)
    go_simp
    refine hK _ _ ⟨.inr id, id⟩ ?_
    clear hK K
    (try simp only [Act.put, List.getElem_toArray, List.getElem_cons_zero, List.getElem_cons_succ, List.setIfInBounds_toArray, List.set_cons_zero, List.set_cons_succ])
    refine anyM_done (by kernel_rfl) ?_ _
    refine NoPanic.normal ?_
    have F5 := hid (five_set g5 (.int .i64 a0) (.int .i64 a1) (.int .u64 0) (.string a3) (.int .i64 a4))
    have us : ∀ {b : World}, Upd (fun k => k = g) w5 b → ∀ (o : Nat) (v : Value), Upd (fun k => k = g) w5 (b.setCell ⟨g, o, none⟩ v) := fun h o v => h.setCell (p := ⟨g, o, none⟩) (.inl rfl) v
    have cg := HG.out _ (us (us (us (us (us (Upd.refl _ w5) 0 (.int .i64 a0)) 1 (.int .i64 a1)) 2 (.int .u64 0)) 3 (.string a3)) 4 (.int .i64 a4))
    clear us HG g5
    generalize ((((w5.setCell ⟨g, 0, none⟩ (.int .i64 a0)).setCell ⟨g, 1, none⟩ (.int .i64 a1)).setCell ⟨g, 2, none⟩ (.int .u64 0)).setCell ⟨g, 3, none⟩ (.string a3)).setCell ⟨g, 4, none⟩ (.int .i64 a4) = w6 at *
    have f0 : w6.cell? ⟨g, 0, none⟩ = some (.int .i64 a0) := cell_of_row _ _ 0 _ _ _ F5.out
    have f1 : w6.cell? ⟨g, 1, none⟩ = some (.int .i64 a1) := cell_of_row _ _ 1 _ _ _ F5.out
    have f2 : w6.cell? ⟨g, 2, none⟩ = some (.int .u64 0) := cell_of_row _ _ 2 _ _ _ F5.out
    have f3 : w6.cell? ⟨g, 3, none⟩ = some (.string a3) := cell_of_row _ _ 3 _ _ _ F5.out
    have f4 : w6.cell? ⟨g, 4, none⟩ = some (.int .i64 a4) := cell_of_row _ _ 4 _ _ _ F5.out
    clear F5
    go_wp2_with (go_at_call 42; (with_reducible refine cg.mono ?_); rintro e w7 ⟨rfl, hgo⟩; clear cg)
    go_ret
    exact ⟨rfl, hgo⟩
  case main =>
    refine anyM_two (i := 7) (j := 11) (by kernel_rfl) rfl rfl rfl rfl (fun K hK => ?_) (fun K hK => ?_)
    · have cc := HM.out w3.drew ((Below.refl _ w3).drew)
      go_simp
      refine ⟨trivial, (callsIn_wide.2 cc).mono ?_⟩
      rintro e w4 ⟨a0, a1, a3, a4, rfl, hk4, hU4, hg4⟩
      refine hK _ _ ⟨.inl rfl, fun hh => ⟨cell_keep hh.1 (hk4 _ (.inl rfl)), cell_keep hh.2 (hk4 _ (.inr (.inl rfl)))⟩⟩ ?_
      clear hK K cc
      (try simp only [Act.put, List.getElem_toArray, List.getElem_cons_zero, List.getElem_cons_succ, List.setIfInBounds_toArray, List.set_cons_zero, List.set_cons_succ])
      (refine anyM_take0 (i := 8) (v := ?_) rfl (by kernel_rfl) (by kernel_rfl) (by kernel_rfl) (fun _ _ _ h => h) (Or.inl ⟨by rfl, ?_⟩) ?_); rotate_left; (focus (intro w' hSw; go_simp; (try with_reducible rfl))); (try simp only [Act.put, List.getElem_toArray, List.getElem_cons_zero, List.getElem_cons_succ, List.setIfInBounds_toArray, List.set_cons_zero, List.set_cons_succ])
      (refine anyM_take0 (i := 9) (v := ?_) rfl (by kernel_rfl) (by kernel_rfl) (by kernel_rfl) (fun _ _ _ h => h) (Or.inl ⟨by rfl, ?_⟩) ?_); rotate_left; (focus (intro w' hSw; go_simp; (try with_reducible rfl))); (try simp only [Act.put, List.getElem_toArray, List.getElem_cons_zero, List.getElem_cons_succ, List.setIfInBounds_toArray, List.set_cons_zero, List.set_cons_succ])
      (refine anyM_take0 (i := 10) (v := ?_) rfl (by kernel_rfl) (by kernel_rfl) (by kernel_rfl) (fun _ _ _ h => h) (Or.inl ⟨by rfl, ?_⟩) ?_); rotate_left; (focus (intro w' hSw; go_simp; (try with_reducible rfl))); (try simp only [Act.put, List.getElem_toArray, List.getElem_cons_zero, List.getElem_cons_succ, List.setIfInBounds_toArray, List.set_cons_zero, List.set_cons_succ])
      refine anyM_one (i := 11) (by kernel_rfl) rfl rfl (fun K hK => ?_)
      go_simp
      have Z4 : w3.heap.size ≤ w4.heap.size := hU4.size
      have hBa : Below w4.heap.size w4 (w4.alloc (.cells #[.int .i64 0, .int .i64 0, .int .u64 0, .string ⟨#[]⟩, .int .i64 0] 95)) := (Below.refl _ w4).alloc (Nat.le_refl _) _
      refine hK _ _ ⟨.inr (fun _ => trivial), fun hh => ⟨below_cell hBa hh.1, below_cell hBa hh.2⟩⟩ ?_
      clear hK K
      (try simp only [Act.put, List.getElem_toArray, List.getElem_cons_zero, List.getElem_cons_succ, List.setIfInBounds_toArray, List.set_cons_zero, List.set_cons_succ])
      refine anyM_same (by kernel_rfl) ?_ (TAIL _ _ ⟨a0, a1, a3, a4, w4.heap.size, Z4, rfl, World.alloc_heap_new w4 (.cells #[.int .i64 0, .int .i64 0, .int .u64 0, .string ⟨#[]⟩, .int .i64 0] 95), hid (fun w6 hU => hg4 w6 (alloc_then hU))⟩)
      (try simp only [Act.put, List.getElem_toArray, List.getElem_cons_zero, List.getElem_cons_succ, List.setIfInBounds_toArray, List.set_cons_zero, List.set_cons_succ])
    · go_simp
      have hBa : Below w3.heap.size w3 (w3.alloc (.cells #[.int .i64 0, .int .i64 0, .int .u64 0, .string ⟨#[]⟩, .int .i64 0] 95)).drew := ((Below.refl _ w3).alloc (Nat.le_refl _) _).drew
      have ga : (w3.alloc (.cells #[.int .i64 0, .int .i64 0, .int .u64 0, .string ⟨#[]⟩, .int .i64 0] 95)).drew.heap[w3.heap.size]? = some (.cells #[.int .i64 0, .int .i64 0, .int .u64 0, .string ⟨#[]⟩, .int .i64 0] 95 (0, 0)) := World.alloc_heap_new w3 (.cells #[.int .i64 0, .int .i64 0, .int .u64 0, .string ⟨#[]⟩, .int .i64 0] 95)
      have za : (w3.alloc (.cells #[.int .i64 0, .int .i64 0, .int .u64 0, .string ⟨#[]⟩, .int .i64 0] 95)).drew.heap.size = w3.heap.size + 1 := World.size_alloc w3 _
      refine hK _ _ ⟨.inr (fun _ => trivial), fun hh => ⟨below_cell hBa hh.1, below_cell hBa hh.2⟩⟩ ?_
      clear hK K
      (try simp only [Act.put, List.getElem_toArray, List.getElem_cons_zero, List.getElem_cons_succ, List.setIfInBounds_toArray, List.set_cons_zero, List.set_cons_succ])
      have cc := HM.out _ hBa
      generalize (w3.alloc (.cells #[.int .i64 0, .int .i64 0, .int .u64 0, .string ⟨#[]⟩, .int .i64 0] 95)).drew = wa at *
      have ZA := hid za
      clear za
      refine anyM_one (i := 7) (by kernel_rfl) rfl rfl (fun K hK => ?_)
      go_simp
      refine ⟨trivial, (callsIn_wide.2 cc).mono ?_⟩
      rintro e w4 ⟨a0, a1, a3, a4, rfl, hk4, hU4, hg4⟩
      refine hK _ _ ⟨.inl rfl, fun hh => ⟨cell_keep hh.1 (hk4 _ (.inl rfl)), cell_keep hh.2 (hk4 _ (.inr (.inl rfl)))⟩⟩ ?_
      clear hK K cc
      (try simp only [Act.put, List.getElem_toArray, List.getElem_cons_zero, List.getElem_cons_succ, List.setIfInBounds_toArray, List.set_cons_zero, List.set_cons_succ])
      (refine anyM_take0 (i := 8) (v := ?_) rfl (by kernel_rfl) (by kernel_rfl) (by kernel_rfl) (fun _ _ _ h => h) (Or.inl ⟨by rfl, ?_⟩) ?_); rotate_left; (focus (intro w' hSw; go_simp; (try with_reducible rfl))); (try simp only [Act.put, List.getElem_toArray, List.getElem_cons_zero, List.getElem_cons_succ, List.setIfInBounds_toArray, List.set_cons_zero, List.set_cons_succ])
      (refine anyM_take0 (i := 9) (v := ?_) rfl (by kernel_rfl) (by kernel_rfl) (by kernel_rfl) (fun _ _ _ h => h) (Or.inl ⟨by rfl, ?_⟩) ?_); rotate_left; (focus (intro w' hSw; go_simp; (try with_reducible rfl))); (try simp only [Act.put, List.getElem_toArray, List.getElem_cons_zero, List.getElem_cons_succ, List.setIfInBounds_toArray, List.set_cons_zero, List.set_cons_succ])
      (refine anyM_take0 (i := 10) (v := ?_) rfl (by kernel_rfl) (by kernel_rfl) (by kernel_rfl) (fun _ _ _ h => h) (Or.inl ⟨by rfl, ?_⟩) ?_); rotate_left; (focus (intro w' hSw; go_simp; (try with_reducible rfl))); (try simp only [Act.put, List.getElem_toArray, List.getElem_cons_zero, List.getElem_cons_succ, List.setIfInBounds_toArray, List.set_cons_zero, List.set_cons_succ])
      refine anyM_same (by kernel_rfl) ?_ (TAIL _ _ ⟨a0, a1, a3, a4, w3.heap.size, Nat.le_refl _, rfl, (hU4.block _ (by have := ZA.out; omega) (by omega)).trans ga, hid (fun w6 hU => hg4 w6 (hU.mono (fun k e => ⟨by omega, by have := ZA.out; omega⟩)))⟩)
      (try simp only [Act.put, List.getElem_toArray, List.getElem_cons_zero, List.getElem_cons_succ, List.setIfInBounds_toArray, List.set_cons_zero, List.set_cons_succ])
end
end Go.Proofs.YtndkfjoaiinjoaaGreat.W
