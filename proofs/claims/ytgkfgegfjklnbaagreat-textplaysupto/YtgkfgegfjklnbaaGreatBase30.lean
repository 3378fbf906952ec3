import Derived.Test.YtgkfgegfjklnbaaGreatBase29
import Derived.Test.YtgkfgegfjklnbaaGreatBase15
import Derived.Test.YtgkfgegfjklnbaaGreatBase3
/- The reference's heap of strings and numbers (casketref7): how it lies; rows of structs; Need. -/
namespace Go.Proofs.YtgkfgegfjklnbaaGreat.W
open Go.ChangeShapes Go.WideShapes Go.RowKit Go.Shelf
set_option linter.unusedVariables false
/-- structs laid one behind the other -/
theorem flatX_len {α : Type} (f : α → List Value) (sz : Nat) (hf : ∀ x, (f x).length = sz) (xs : List α) : (xs.flatMap f).length = xs.length * sz := by
  induction xs with
  | nil => simp
  | cons b r ih => rw [List.flatMap_cons, List.length_append, hf, ih, List.length_cons, Nat.add_mul]; omega
theorem flatX_get {α : Type} (f : α → List Value) (sz : Nat) (hf : ∀ x, (f x).length = sz) (xs : List α) (i j : Nat) (x : α) (h : xs[i]? = some x) (hj : j < sz) : (xs.flatMap f)[i * sz + j]? = (f x)[j]? := by
  induction xs generalizing i with
  | nil => simp at h
  | cons b r ih =>
    cases i with
    | zero =>
      simp at h; subst h
      rw [List.flatMap_cons, List.getElem?_append_left (by rw [hf]; omega)]
      simp
    | succ i =>
      simp at h
      have := ih i h
      rw [List.flatMap_cons, List.getElem?_append_right (by rw [hf, Nat.add_mul]; omega), hf, show (i + 1) * sz + j - sz = i * sz + j by rw [Nat.add_mul]; omega]
      exact this
def Tv.cells (v : Tv) : List Value := [.int .i64 (if v.whole = true then 2 else 4), .int .i64 v.i, .int .u64 0, .string v.t, .int .i64 v.cell]
theorem Tv.cells_len (v : Tv) : v.cells.length = 5 := rfl
def Rc.cells : Rc → List Value
  | .gone => [.int .i64 0, .bool false, .int .i64 0, .slice none 0 0, .slice none 0 0, .int .i64 0, .int .i64 0, .int .i64 0, .bool false]
  | .num => [.int .i64 2, .bool false, .int .i64 0, .slice none 0 0, .slice none 0 0, .int .i64 0, .int .i64 0, .int .i64 0, .bool true]
  | .txt n => [.int .i64 4, .bool false, .int .i64 n, .slice none 0 0, .slice none 0 0, .int .i64 0, .int .i64 0, .int .i64 0, .bool true]
theorem Rc.cells_len (c : Rc) : c.cells.length = 9 := by cases c <;> rfl
def flatT (vs : List Tv) : List Value := vs.flatMap Tv.cells
def flatR (L : List Rc) : List Value := L.flatMap Rc.cells
theorem flatT_len (vs : List Tv) : (flatT vs).length = vs.length * 5 := flatX_len Tv.cells 5 Tv.cells_len vs
theorem flatT_get (vs : List Tv) (i j : Nat) (v : Tv) (h : vs[i]? = some v) (hj : j < 5) : (flatT vs)[i * 5 + j]? = v.cells[j]? := flatX_get Tv.cells 5 Tv.cells_len vs i j v h hj
theorem flatR_get (L : List Rc) (i j : Nat) (c : Rc) (h : L[i]? = some c) (hj : j < 9) : (flatR L)[i * 9 + j]? = c.cells[j]? := flatX_get Rc.cells 9 Rc.cells_len L i j c h hj
theorem flatT_app (a b : List Tv) : flatT (a ++ b) = flatT a ++ flatT b := by simp [flatT]
theorem flatR_app (a b : List Rc) : flatR (a ++ b) = flatR a ++ flatR b := by simp [flatR]
theorem tv_one (vs : List Tv) : ∀ x ∈ flatT vs, x.oneCell' = true := by
  intro x hx
  unfold flatT at hx
  rw [List.mem_flatMap] at hx
  obtain ⟨v, _, hx⟩ := hx
  simp [Tv.cells] at hx
  rcases hx with rfl | rfl | rfl | rfl | rfl <;> rfl
theorem rc_one (c : Rc) : ∀ x ∈ c.cells, x.oneCell' = true := by
  cases c <;> intro x hx <;> simp [Rc.cells] at hx <;> rcases hx with rfl | rfl | rfl | rfl | rfl | rfl <;> rfl
theorem infoTv : (Tryz.prog.info? 56).map (fun i => (i.zero, i.size, i.bytes)) = some (some (.agg #[.int .i64 0, .int .i64 0, .int .u64 0, .string ⟨#[]⟩, .int .i64 0]), 5, 48) := by kernel_rfl
theorem underTv : Tryz.prog.underlying 33 = some (.slice 56) := by kernel_rfl
theorem infoRc : (Tryz.prog.info? 73).map (fun i => (i.zero, i.size, i.bytes)) = some (some (.agg #[.int .i64 0, .bool false, .int .i64 0, .slice none 0 0, .slice none 0 0, .int .i64 0, .int .i64 0, .int .i64 0, .bool false]), 9, 104) := by kernel_rfl
theorem underRc : Tryz.prog.underlying 29 = some (.slice 73) := by kernel_rfl
/-- 'append(v, x...)', whatever the width, and where what it answers lies -/
theorem append_wide {P : Program} (w : World) (t ty e : TypeId) (i : TypeInfo) (z : Value) (size bytes : Nat) (ht : P.underlying t = some (.slice e)) (hi : P.info? e = some i) (hz : i.zero = some z) (hsize : i.size = size) (hby : i.bytes = bytes) (hzs : z.cells.size = size) (hsz : 0 < size)
    (v : Value) (n : Nat) (xs : List Value) (hown : w.ownsRow 0 e size v n xs) (a : Addr) (m c : Nat) (news : List Value) (hl : news.length = m * size) (hnews : ∀ j u, news[j]? = some u → w.cell? (a.add j) = some u) (h1 : ∀ u ∈ news, u.oneCell' = true)
    (hm : 0 < m) (hb40 : bytes ≤ 1000) (hnm : n + m ≤ 100000000) :
    ∃ v' w', (Builtin.append_ #[t, t] ty #[v, .slice (some a) m c]).run P w = .ok v' w' ∧ w'.ownsRow 0 e size v' (n + m) (xs ++ news) ∧ w.grownBy w' v.ownBlock ∧ (∀ k, v'.ownBlock = some k → v.ownBlock = some k ∨ (w.heap.size ≤ k ∧ k < w'.heap.size)) := by
  have hbig : (n + m) * bytes ≤ 140737488355328 := by
    have := Nat.mul_le_mul hnm hb40
    omega
  obtain ⟨v', w', hrun, ho, hg, _⟩ := run_append_own w 0 t ty e i z size bytes ht hi hz hsize hby hzs hsz v n xs hown a m c news hl hnews h1 (by unfold maxLen; omega) hbig (Nat.zero_le _)
  refine ⟨v', w', hrun, ho, hg, fun k hk => ?_⟩
  have hklt := (ho.lt k hk).2
  have hown' := hown
  obtain ⟨hlen, hrow⟩ := hown
  rcases hrow with ⟨rfl, rfl⟩ | ⟨g, cap, cur, rfl, _, hgg, hc, hcm, hcs, htake⟩
  · have hx : xs = [] := by simpa using hlen
    subst hx
    obtain ⟨v2, w2, hrun2, ho2, _, _⟩ := run_append_own w w.heap.size t ty e i z size bytes ht hi hz hsize hby hzs hsz (.slice none 0 0) 0 [] (World.ownsRow_nil _ _ _ _) a m c news hl hnews h1 (by unfold maxLen; omega) hbig (Nat.le_refl _)
    rw [hrun] at hrun2
    cases hrun2
    exact .inr ⟨(ho2.lt k hk).1, hklt⟩
  · by_cases hroom : n + m ≤ cap
    · have hr := run_append_room (P := P) w t ty e i ht hi g n cap cur hgg a m c news (by rw [hsize]; exact hl) hnews h1 hroom (by
        rw [hsize, hl, hcs, ← Nat.add_mul]; exact Nat.mul_le_mul_right _ hroom)
      rw [hrun] at hr
      cases hr
      exact .inl hk
    · have hfc : (Builtin.firstCells i.size n (.slice (some ⟨g, 0, none⟩) n cap)).run P w.drew = .ok xs.toArray w.drew := by
        rw [hsize]
        exact run_firstCells_some (P := P) w.drew size n ⟨g, 0, none⟩ n cap xs hlen (World.ownsRow.cells (w := w.drew) (base := 0) (e := e) (size := size) (n := n) (v := .slice (some ⟨g, 0, none⟩) n cap) hown' rfl)
      have hr := run_append_grow_src (P := P) w t t ty e i z ht hi hz (some ⟨g, 0, none⟩) n cap xs hfc (.slice (some a) m c) m news (Src.ofSlice w ht a m c news (by rw [hsize]; exact hl) hnews h1) (by omega) (by omega) (by rw [hby]; exact growslice_fits (by omega) hbig)
      rw [hrun] at hr
      cases hr
      simp [Value.ownBlock] at hk
      subst hk
      exact .inr ⟨Nat.le_refl _, hklt⟩
/-- nothing is put behind a row of values -/
theorem app_none (w : World) (ty : TypeId) (v : Value) (n : Nat) (xs : List Value) (hown : w.ownsRow 0 56 5 v n xs) : (Builtin.append_ #[33, 33] ty #[v, .slice none 0 0]).run Tryz.prog w = .ok v w := by
  obtain ⟨i0, hi, hz0, hz1, hz2⟩ := info_parts infoTv
  rcases hown.2 with ⟨rfl, rfl⟩ | ⟨g, cap', cur, rfl, _, _, hnc, _⟩
  · simp [Builtin.append_, run_underlying underTv, sizeOf, typeInfo, hi, Builtin.lenOf, Builtin.firstCells]
  · simp [Builtin.append_, run_underlying underTv, sizeOf, typeInfo, hi, Builtin.lenOf, Builtin.firstCells, hnc, storeCells]
/-- an empty row is put behind a row of values -/
theorem app_empty (w : World) (ty : TypeId) (v : Value) (n : Nat) (xs : List Value) (hown : w.ownsRow 0 56 5 v n xs) (a : Addr) (c : Nat) : (Builtin.append_ #[33, 33] ty #[v, .slice (some a) 0 c]).run Tryz.prog w = .ok v w := by
  obtain ⟨i0, hi, hz0, hz1, hz2⟩ := info_parts infoTv
  rcases hown.2 with ⟨rfl, rfl⟩ | ⟨g, cap', cur, rfl, _, _, hnc, _⟩
  · simp [Builtin.append_, run_underlying underTv, sizeOf, typeInfo, hi, Builtin.lenOf, Builtin.firstCells, loadCells, loadCellsFrom]
  · simp [Builtin.append_, run_underlying underTv, sizeOf, typeInfo, hi, Builtin.lenOf, Builtin.firstCells, hnc, storeCells, loadCells, loadCellsFrom]
/-- values of another row are put behind a row of one's own -/
theorem app_vals (w : World) (ty : TypeId) (v : Value) (xa : List Tv) (hown : w.ownsRow 0 56 5 v xa.length (flatT xa)) (vx : Value) (bs : List Tv) (hx : w.ownsRow 0 56 5 vx bs.length (flatT bs)) (hn : xa.length + bs.length ≤ 50000000) :
    ∃ v' w', (Builtin.append_ #[33, 33] ty #[v, vx]).run Tryz.prog w = .ok v' w' ∧ w'.ownsRow 0 56 5 v' (xa ++ bs).length (flatT (xa ++ bs)) ∧ w.grownBy w' v.ownBlock ∧ (∀ k, v'.ownBlock = some k → v.ownBlock = some k ∨ (w.heap.size ≤ k ∧ k < w'.heap.size)) := by
  have nb : w.grownBy w v.ownBlock := ⟨rfl, rfl, rfl, Nat.le_refl _, fun k _ _ => rfl⟩
  rcases hx.2 with ⟨rfl, h0⟩ | ⟨g, cap, cur, rfl, h2, h3, h4, h5, h6, h7⟩
  · have hb : bs = [] := List.length_eq_zero_iff.1 h0
    subst hb
    exact ⟨v, w, app_none w ty v _ _ hown, by simpa using hown, nb, fun k e => .inl e⟩
  · by_cases hb : bs.length = 0
    · have hb' : bs = [] := List.length_eq_zero_iff.1 hb
      subst hb'
      exact ⟨v, w, app_empty w ty v _ _ hown _ _, by simpa using hown, nb, fun k e => .inl e⟩
    · obtain ⟨i0, hi, hz0, hz1, hz2⟩ := info_parts infoTv
      have hc := hx.cells rfl
      obtain ⟨v', w', r1, r2, r3, r4⟩ := append_wide (P := Tryz.prog) w 33 ty 56 i0 _ 5 48 underTv hi hz0 hz1 hz2 rfl (by omega) v xa.length (flatT xa) hown ⟨g, 0, none⟩ bs.length cap (flatT bs) (flatT_len bs) hc (tv_one bs) (by omega) (by omega) (by omega)
      exact ⟨v', w', r1, by rw [flatT_app, List.length_append]; exact r2, r3, r4⟩
/-- one cell of a row of one's own is written -/
theorem own_put9 {W : World} {e : TypeId} {size g n cap : Nat} {xs : List Value} (h : W.ownsRow 0 e size (.slice (some ⟨g, 0, none⟩) n cap) n xs) (j : Nat) (u : Value) (hj : j < n * size) : (W.setCell ⟨g, j, none⟩ u).ownsRow 0 e size (.slice (some ⟨g, 0, none⟩) n cap) n (xs.set j u) := by
  rcases h.2 with ⟨h0, _⟩ | ⟨g', cap', cur, h0, h2, h3, h4, h5, h6, h7⟩
  · cases h0
  · simp only [Value.slice.injEq, Option.some.injEq, Addr.mk.injEq, true_and, and_true] at h0
    obtain ⟨rfl, rfl⟩ := h0
    have hs := heap_set (c := cur.toList) (by simpa using h3) j u
    refine ⟨by rw [List.length_set, h.1], .inr ⟨g, cap, _, rfl, h2, hs, h4, h5, by simpa using h6, ?_⟩⟩
    rw [← h7, List.toList_toArray, List.take_set]
theorem own_cell9 {W : World} {e : TypeId} {size g n cap : Nat} {xs : List Value} (h : W.ownsRow 0 e size (.slice (some ⟨g, 0, none⟩) n cap) n xs) (j : Nat) (hj : j < n * size) : W.cell? ⟨g, j, none⟩ = xs[j]? ∧ W.frozen? ⟨g, j, none⟩ = false := by
  rcases h.2 with ⟨h0, _⟩ | ⟨g', cap', cur, h0, h2, h3, h4, h5, h6, h7⟩
  · cases h0
  · simp only [Value.slice.injEq, Option.some.injEq, Addr.mk.injEq, true_and, and_true] at h0
    obtain ⟨rfl, rfl⟩ := h0
    refine ⟨?_, by simp only [World.frozen?, h3]; simp⟩
    rw [cell_of_row _ g _ _ _ _ h3, ← h7, List.getElem?_take, if_pos hj, Array.getElem?_toList]
/-- the reference's heap at rb -/
structure Rh (W : World) (rb : Nat) (lv : Value) (room : Nat) (L : List Rc) : Prop where
  top : W.heap[rb]? = some (.cells #[.int .i64 (room : Nat), lv] 31 (0, 0))
  row : W.ownsRow 0 73 9 lv L.length (flatR L)
  own : lv.ownBlock ≠ some rb
  len : L.length ≤ 100000
section
variable {W W' : World} {rb room : Nat} {lv : Value} {L : List Rc}
theorem Rh.on (h : Rh W rb lv room L) (hk : ∀ k, (k = rb ∨ lv.ownBlock = some k) → W'.heap[k]? = W.heap[k]?) : Rh W' rb lv room L :=
  ⟨(hk rb (.inl rfl)).trans h.top, owns_on h.row (fun k e => hk k (.inr e)), h.own, h.len⟩
theorem Rh.lt (h : Rh W rb lv room L) (k : Nat) (hk : k = rb ∨ lv.ownBlock = some k) : k < W.heap.size := by
  rcases hk with rfl | hk
  · exact (Array.getElem?_eq_some_iff.1 h.top).1
  · exact (h.row.lt k hk).2
theorem Rh.below (h : Rh W rb lv room L) (hB : Below W.heap.size W W') : Rh W' rb lv room L := h.on (fun k hk => hB.block k (h.lt k hk))
theorem Rh.cell {g n cap : Nat} (h : Rh W rb (.slice (some ⟨g, 0, none⟩) n cap) room L) {k j : Nat} {c : Rc} (hc : L[k]? = some c) (hj : j < 9) : W.cell? ⟨g, k * 9 + j, none⟩ = c.cells[j]? := by
  have hk := (List.getElem?_eq_some_iff.1 hc).1
  have hr := h.row
  obtain ⟨o, cap', hv⟩ := slice_of hr
  injection hv with _ hn _
  subst hn
  rw [(own_cell9 hr (k * 9 + j) (by omega)).1, flatR_get L k j c hc hj]
end
end Go.Proofs.YtgkfgegfjklnbaaGreat.W
/- The reference's heap: what is reached from values. -/
namespace Go.Proofs.YtgkfgegfjklnbaaGreat.W
open Go.ChangeShapes Go.WideShapes Go.RowKit Go.Shelf
set_option linter.unusedVariables false
/-- which of the first n are cells of these values -/
def metL (n : Nat) (vs : List Tv) : List Bool := (List.range n).map (fun (k : Nat) => decide (((k : Nat) : Int) ∈ vs.map Tv.cell))
theorem metL_len (n : Nat) (vs : List Tv) : (metL n vs).length = n := by simp [metL]
theorem metL_get (n : Nat) (vs : List Tv) (k : Nat) (h : k < n) : (metL n vs)[k]? = some (decide ((k : Int) ∈ vs.map Tv.cell)) := by
  unfold metL
  rw [List.getElem?_map, List.getElem?_range h]
  rfl
theorem metL_nil (n : Nat) : metL n [] = List.replicate n false := by
  apply List.ext_getElem?
  intro k
  by_cases h : k < n
  · rw [metL_get n [] k h, List.getElem?_replicate, if_pos h]; simp
  · rw [List.getElem?_eq_none (by rw [metL_len]; omega), List.getElem?_eq_none (by simp; omega)]
theorem metL_same (n : Nat) (vs : List Tv) (v : Tv) (h : v.cell < 0 ∨ v.cell ∈ vs.map Tv.cell) : metL n (vs ++ [v]) = metL n vs := by
  unfold metL
  apply List.map_congr_left
  intro k _
  rw [List.map_append, List.map_cons, List.map_nil]
  congr 1
  apply propext
  rw [List.mem_append]
  constructor
  · rintro (c | c)
    · exact c
    · simp at c
      rcases h with h | h
      · omega
      · rw [c]; exact h
  · exact .inl
theorem metL_set (n : Nat) (vs : List Tv) (v : Tv) (k : Nat) (h : v.cell = k) (hk : k < n) : metL n (vs ++ [v]) = (metL n vs).set k true := by
  apply List.ext_getElem?
  intro j
  by_cases hj : j < n
  · rw [metL_get n _ j hj]
    by_cases e : j = k
    · subst e
      rw [List.getElem?_set_self (by rw [metL_len]; exact hj)]
      simp [h]
    · rw [List.getElem?_set_ne (fun c => e c.symm), metL_get n _ j hj]
      congr 1
      rw [List.map_append, List.map_cons, List.map_nil]
      have : ((j : Int) ∈ vs.map Tv.cell ++ [v.cell]) ↔ ((j : Int) ∈ vs.map Tv.cell) := by
        rw [List.mem_append]
        constructor
        · rintro (c | c)
          · exact c
          · simp at c; omega
        · exact .inl
      simp only [this]
  · rw [List.getElem?_eq_none (by rw [metL_len]; omega), List.getElem?_eq_none (by rw [List.length_set, metL_len]; omega)]
theorem set_map_bool (xs : List Bool) (k : Nat) (b : Bool) : (xs.map Value.bool).set k (.bool b) = (xs.set k b).map Value.bool := by
  rw [List.map_set]
set_option maxRecDepth 100000 in
set_option maxHeartbeats 1000000 in
theorem reached_c {W : World} {rb room : Nat} {lv : Value} {L : List Rc} (h : Rh W rb lv room L) (vr : Value) (vs : List Tv) (hr : W.ownsRow 0 56 5 vr vs.length (flatT vs)) (hin : ∀ v ∈ vs, v.cell < 0 ∨ ∃ k : Nat, v.cell = k ∧ k < L.length) (hn : vs.length ≤ 3000000) :
    Calls Tryz.prog 46 #[.pointer (some ⟨rb, 0, none⟩), vr] W fun e w' => ∃ mb, e = .returned (.slice (some ⟨mb, 0, none⟩) L.length L.length) ∧ w'.ownsRow 0 4 1 (.slice (some ⟨mb, 0, none⟩) L.length L.length) L.length ((metL L.length vs).map .bool) ∧ W.heap.size ≤ mb ∧ Below W.heap.size W w' := by
  obtain ⟨ol, capl, rfl⟩ := slice_of h.row
  obtain ⟨orr, capr, rfl⟩ := slice_of hr
  have c1 : W.cell? ⟨rb, 1, none⟩ = some (.slice ol L.length capl) := cell_of_row _ _ 1 _ _ _ h.top
  obtain ⟨w1, hmk, hm1, hg1⟩ := make_bools W L.length (by have := h.len; omega)
  have hB1 : Below W.heap.size W w1 := (Below.refl _ W).grown hg1 (Nat.le_refl _) (fun k e => by cases e)
  have hB2 : Below w1.heap.size w1 (w1.alloc (.cells #[] 56)) := (Below.refl _ w1).alloc (Nat.le_refl _) _
  have hB12 := hB1.trans (hB2.mono hB1.size)
  have h0 := World.ownsRow_lit (base := 0) (e := 56) (size := 5) w1 #[] 0 (Nat.zero_le _) (by simp) (by simp)
  obtain ⟨wv, w2, hrun, hwv, hgw, hwk⟩ := app_vals (w1.alloc (.cells #[] 56)) 33 (.slice (some ⟨w1.heap.size, 0, none⟩) 0 0) [] (by simpa [flatT] using h0) (.slice orr vs.length capr) vs (owns_on hr (fun k e => hB12.block k (hr.lt k e).2)) (by simp; omega)
  have hw2 : Below W.heap.size W w2 := hB12.grown hgw hB12.size (fun k e => by cases e; exact hB1.size)
  have hBw : Below w1.heap.size w1 w2 := hB2.grown hgw hB2.size (fun k e => by cases e; exact Nat.le_refl _)
  have hmb : w2.ownsRow 0 4 1 (.slice (some ⟨W.heap.size, 0, none⟩) L.length L.length) L.length ((metL L.length []).map .bool) := by
    rw [metL_nil]
    exact owns_on (owns_base hm1 (fun _ _ => Nat.zero_le _)) (fun k e => hBw.block k (hm1.lt k e).2)
  have hlt1 : W.heap.size < w1.heap.size := (hm1.lt W.heap.size rfl).2
  have HX := hid (show (∀ k, wv.ownBlock = some k → W.heap.size < k) from fun k e => by
    rcases hwk k e with e | e
    · have e' : w1.heap.size = k := by simpa [Value.ownBlock] using e
      omega
    · have := hB2.size
      omega)
  have HR := hid h
  have HI := hid hin
  have HV := hid (owns_base hwv (b' := 0) (fun _ _ => Nat.zero_le _))
  rw [List.nil_append] at HV
  obtain ⟨ow, capw, hwe⟩ := slice_of HV.out
  obtain ⟨n, hvn⟩ : ∃ n, vs.length = n := ⟨_, rfl⟩
  obtain ⟨m, hLm⟩ : ∃ m, L.length = m := ⟨_, rfl⟩
  have hwB := hid hw2
  have hmB := hid hmb
  have hrL := h.len
  subst hwe
  rw [hvn] at hrun hn HV
  clear hwv hwk hgw h0 hm1 hg1 hB1 hB2 hB12 hr h hin hw2 hmb hBw hlt1
  rw [hLm] at c1 hmk hrL hmB
  rw [hvn, hLm]
  have VN := hid hvn
  have LM := hid hLm
  clear hvn hLm
  go_enter Tryz.func46, Tryz.ntmps46
  go_upto_region 3 with (at_builtin; refine Lib.wpList_append_run _ rfl (.tmp 15) (.tmp 16) 33 33 rfl _ _ (by simp [Act.eval]) (by simp [Act.eval]) _ _ hrun ?_)
  clear hrun hmk
  go_wp2
  go_loopw [6, 7, 8] (fun ww ii kk wr => ∃ j : Nat, j ≤ n ∧ ii = .int .i64 j ∧ ww = .slice ow n capw ∧ wr.ownsRow 0 4 1 (.slice (some ⟨W.heap.size, 0, none⟩) m m) m ((metL m (vs.take j)).map .bool) ∧ wr.ownsRow 0 56 5 (.slice ow n capw) n (flatT vs) ∧ Below W.heap.size W wr) (fun _ ii _ _ => n - (intOf ii).toNat)
  case atStart => exact ⟨0, Nat.zero_le _, rfl, rfl, by simpa using hmB.out, HV.out, hwB.out⟩
  case round =>
    obtain ⟨j, hj, rfl, rfl, hm, hv, hB⟩ := hrel
    by_cases hjn : j < n
    · obtain ⟨v, hv0⟩ : ∃ v, vs[j]? = some v := ⟨_, List.getElem?_eq_getElem (by rw [VN.out]; exact hjn)⟩
      have htk : vs.take (j + 1) = vs.take j ++ [v] := by rw [List.take_add_one, hv0]; rfl
      have hvm : v ∈ vs := List.mem_of_getElem? hv0
      obtain ⟨g, cap', hve, _⟩ := own_slice hv (by omega)
      injection hve with hv1 hv2 hv3
      subst hv1
      clear hv2 hv3
      have c4 : wr.cell? ⟨g, j * 5 + 4, none⟩ = some (.int .i64 v.cell) := by
        rw [(own_cell9 hv (j * 5 + 4) (by omega)).1, flatT_get vs j 4 v hv0 (by omega)]
        rfl
      have k0 : (0 : Int) ≤ j := Int.natCast_nonneg _
      have k1 : (j : Int) < n := by omega
      have wk : IntKind.i64.wrap ((j : Int) + 1) = (j : Int) + 1 := by rw [IntKind.wrap_i64]; omega
      have HM := hid (show n - ((j : Int) + 1).toNat < n - ((j : Int)).toNat by omega)
      have HJ := hid (show j + 1 ≤ n by omega)
      by_cases hneg : v.cell < 0
      · have S1 := hid (show wr.ownsRow 0 4 1 (.slice (some ⟨W.heap.size, 0, none⟩) m m) m ((metL m (vs.take (j + 1))).map .bool) by rw [htk, metL_same m _ v (.inl hneg)]; exact hm)
        have S2 := hid (And.intro hv hB)
        clear hm hv hB hj hjn hv0 htk hvm HR HI HX hmB hwB HV VN LM c1
        go_wp2
        go_roundw
        case rel => exact ⟨j + 1, HJ.out, rfl, rfl, S1.out, S2.out.1, S2.out.2⟩
        case measure => exact HM.out
      · obtain ⟨k, hk, hkm⟩ : ∃ k : Nat, v.cell = k ∧ k < m := by
          rcases HI.out v hvm with c | ⟨k, h1, h2⟩
          · exact absurd c hneg
          · exact ⟨k, h1, by rw [← LM.out]; exact h2⟩
        rw [hk] at c4
        have hneg' : ¬ (k : Int) < 0 := by omega
        have k2 : (0 : Int) ≤ k := Int.natCast_nonneg _
        have k3 : (k : Int) < m := by omega
        have cm := own_cell9 hm k (by omega)
        have cm1 : wr.cell? ⟨W.heap.size, k, none⟩ = some (.bool (decide ((k : Int) ∈ (vs.take j).map Tv.cell))) := by
          rw [cm.1, List.getElem?_map, metL_get m _ k hkm]
          rfl
        have cm2 := cm.2
        clear cm
        by_cases hmem : (k : Int) ∈ (vs.take j).map Tv.cell
        · rw [decide_eq_true hmem] at cm1
          have S1 := hid (show wr.ownsRow 0 4 1 (.slice (some ⟨W.heap.size, 0, none⟩) m m) m ((metL m (vs.take (j + 1))).map .bool) by rw [htk, metL_same m _ v (.inr (by rw [hk]; exact hmem))]; exact hm)
          have S2 := hid (And.intro hv hB)
          clear hm hv hB hj hjn hv0 htk hvm HR HI HX hmB hwB HV VN LM c1 hneg hk hkm hmem cm2
          go_wp2
          go_roundw
          case rel => exact ⟨j + 1, HJ.out, rfl, rfl, S1.out, S2.out.1, S2.out.2⟩
          case measure => exact HM.out
        · rw [decide_eq_false hmem] at cm1
          obtain ⟨c, hc⟩ : ∃ c, L[k]? = some c := ⟨_, List.getElem?_eq_getElem (by rw [LM.out]; exact hkm)⟩
          have hRr := HR.out.below hB
          obtain ⟨gl, capl', hle, _⟩ := own_slice hRr.row (by rw [LM.out]; omega)
          injection hle with hl1 hl2 hl3
          subst hl1
          clear hl2 hl3
          have nl : W.heap.size ≠ gl := by
            have := HR.out.lt gl (.inr rfl)
            omega
          have nr : W.heap.size ≠ rb := by
            have := HR.out.lt rb (.inl rfl)
            omega
          have ng : g ≠ W.heap.size := by have := HX.out g rfl; omega
          have wM := own_put9 hm k (.bool true) (by omega)
          rw [set_map_bool, ← metL_set m (vs.take j) v k hk hkm, ← htk] at wM
          have wV : (wr.setCell ⟨W.heap.size, k, none⟩ (.bool true)).ownsRow 0 56 5 (.slice (some ⟨g, 0, none⟩) n capw) n (flatT vs) := ownsRow_setCell_other hv (a := ⟨W.heap.size, k, none⟩) (by simp [Value.ownBlock]; exact ng) _
          have wB : Below W.heap.size W (wr.setCell ⟨W.heap.size, k, none⟩ (.bool true)) := hB.setCell (p := ⟨W.heap.size, k, none⟩) (Nat.le_refl _) _
          have d1 : (wr.setCell ⟨W.heap.size, k, none⟩ (.bool true)).cell? ⟨rb, 1, none⟩ = some (.slice (some ⟨gl, 0, none⟩) m capl) := by
            rw [World.cell?_setCell_far _ _ _ _ nr]
            have := cell_of_row _ rb 1 _ _ _ hRr.top
            rw [this, LM.out]
            rfl
          have d2 : (wr.setCell ⟨W.heap.size, k, none⟩ (.bool true)).cell? ⟨gl, k * 9 + 1, none⟩ = some (.bool false) := by
            rw [World.cell?_setCell_far _ _ _ _ nl, hRr.cell hc (by omega)]
            cases c <;> rfl
          have d3 : (wr.setCell ⟨W.heap.size, k, none⟩ (.bool true)).cell? ⟨gl, k * 9 + 4, none⟩ = some (.slice none 0 0) := by
            rw [World.cell?_setCell_far _ _ _ _ nl, hRr.cell hc (by omega)]
            cases c <;> rfl
          have hap := fun ty => app_none (wr.setCell ⟨W.heap.size, k, none⟩ (.bool true)) ty _ _ _ wV
          have S1 := hid wM
          have S2 := hid (And.intro wV wB)
          clear hm hv hB hj hjn hv0 htk hvm HR HI HX hmB hwB HV VN LM c1 hneg hk hkm hmem wM wV wB hRr hc nl nr ng
          go_upto_region 11 with fail
          go_wp2_with (at_builtin; refine Lib.wpList_append_run _ rfl (.tmp 60) (.tmp 68) 33 33 rfl _ _ (by simp [Act.eval]) (by simp [Act.eval]) _ _ (hap _) ?_)
          go_roundw
          case rel => exact ⟨j + 1, HJ.out, rfl, rfl, S1.out, S2.out.1, S2.out.2⟩
          case measure => exact HM.out
    · have e1 : j = n := by omega
      subst e1
      have hk1 : ¬ (j : Int) < j := by omega
      have htk : vs.take j = vs := by rw [← VN.out]; exact List.take_length
      rw [htk] at hm
      have S1 := hid hm
      have S2 := hid hB
      clear hm hv hB hj hjn htk HR HI HX hmB hwB HV VN LM c1
      go_wp2
      go_ret
      exact ⟨_, rfl, S1.out, Nat.le_refl _, S2.out⟩
end Go.Proofs.YtgkfgegfjklnbaaGreat.W
/- The reference's heap: a cell that is struck out, one that is put behind; Need of a cell that is not held yet. -/
namespace Go.Proofs.YtgkfgegfjklnbaaGreat.W
open Go.ChangeShapes Go.WideShapes Go.RowKit Go.Shelf
set_option linter.unusedVariables false
def Rc.kd : Rc → Int
  | .gone => 0
  | .num => 2
  | .txt _ => 4
def Rc.ch : Rc → Nat
  | .txt n => n
  | _ => 0
theorem Rc.cells_eq (c : Rc) : c.cells = [.int .i64 c.kd, .bool false, .int .i64 (c.ch : Nat), .slice none 0 0, .slice none 0 0, .int .i64 0, .int .i64 0, .int .i64 0, .bool c.held] := by cases c <;> rfl
theorem Rc.need_le (c : Rc) (h : c.ch ≤ 100000000) : c.need ≤ 12500002 := by
  cases c with
  | gone => exact (by omega : 1 ≤ 12500002)
  | num => exact (by omega : 2 ≤ 12500002)
  | txt n => simp only [Rc.need, Rc.ch] at *; omega
theorem sumK_le (L : List Rc) (ks : List Int) (hL : ∀ c ∈ L, c.ch ≤ 100000000) (n : Nat) : sumK L ks n ≤ n * 12500002 := by
  induction n with
  | zero => simp [sumK]
  | succ n ih =>
    unfold sumK
    have : ((L[n]?).getD .gone).need ≤ 12500002 := by
      cases hc : L[n]? with
      | none => exact (by omega : 1 ≤ 12500002)
      | some c => exact c.need_le (hL c (List.mem_of_getElem? hc))
    rw [Nat.add_mul, Nat.one_mul]
    split
    · exact Nat.add_le_add ih this
    · exact Nat.add_le_add ih (Nat.zero_le _)
set_option maxRecDepth 100000 in
theorem need7_r (c : Rc) (hc : c.ch ≤ 100000000) (b : Bool) (W : World) : Calls Tryz.prog 47 #[.agg #[.int .i64 c.kd, .bool false, .int .i64 (c.ch : Nat), .slice none 0 0, .slice none 0 0, .int .i64 0, .int .i64 0, .int .i64 0, .bool b]] W fun e w' => e = .returned (.int .i64 (c.need : Nat)) ∧ Below W.heap.size W w' := by
  cases c with
  | gone =>
    simp only [Rc.kd, Rc.ch]
    go_enter Tryz.func47, Tryz.ntmps47
    go_wp2
    go_ret
    exact ⟨rfl, (Below.refl _ W).alloc (Nat.le_refl _) _⟩
  | num =>
    simp only [Rc.kd, Rc.ch]
    go_enter Tryz.func47, Tryz.ntmps47
    go_wp2
    go_ret
    exact ⟨rfl, (Below.refl _ W).alloc (Nat.le_refl _) _⟩
  | txt n =>
    simp only [Rc.kd, Rc.ch] at *
    have w1 : IntKind.i64.wrap ((n : Int) + 7) = (n : Int) + 7 := by rw [IntKind.wrap_i64]; omega
    have w2 : IntKind.i64.wrap (((n : Int) + 7).tdiv 8) = ((n : Int) + 7) / 8 := by rw [IntKind.wrap_i64, Int.tdiv_eq_ediv_of_nonneg (by omega)]; omega
    have w3 : IntKind.i64.wrap (1 + ((n : Int) + 7) / 8) = 1 + ((n : Int) + 7) / 8 := by rw [IntKind.wrap_i64]; omega
    have HN := hid (show ((Rc.txt n).need : Int) = 1 + ((n : Int) + 7) / 8 by show ((1 + (n + 7) / 8 : Nat) : Int) = _; omega)
    clear hc
    go_enter Tryz.func47, Tryz.ntmps47
    go_wp2
    go_ret
    exact ⟨by rw [HN.out]; rfl, (Below.refl _ W).alloc (Nat.le_refl _) _⟩
theorem flatR_cons (a : Rc) (L : List Rc) : flatR (a :: L) = a.cells ++ flatR L := by simp [flatR]
theorem flatR_nine (L : List Rc) (k : Nat) (hk : k < L.length) : (((((((((flatR L).set (k * 9) (.int .i64 0)).set (k * 9 + 1) (.bool false)).set (k * 9 + 2) (.int .i64 0)).set (k * 9 + 3) (.slice none 0 0)).set (k * 9 + 4) (.slice none 0 0)).set (k * 9 + 5) (.int .i64 0)).set (k * 9 + 6) (.int .i64 0)).set (k * 9 + 7) (.int .i64 0)).set (k * 9 + 8) (.bool false) = flatR (L.set k .gone) := by
  induction L generalizing k with
  | nil => simp at hk
  | cons a L ih =>
    cases k with
    | zero =>
      rw [List.set_cons_zero, flatR_cons, flatR_cons, Rc.cells_eq a]
      simp [Rc.cells]
    | succ k =>
      have h5 : ∀ (l : List Value) (j : Nat) (v : Value), (a.cells ++ l).set ((k + 1) * 9 + j) v = a.cells ++ l.set (k * 9 + j) v := by
        intro l j v
        rw [List.set_append_right _ _ (by rw [Rc.cells_len]; omega), Rc.cells_len]
        congr 2
        omega
      have h50 : ∀ (l : List Value) (v : Value), (a.cells ++ l).set ((k + 1) * 9) v = a.cells ++ l.set (k * 9) v := fun l v => h5 l 0 v
      rw [List.set_cons_succ, flatR_cons, flatR_cons, h50, h5, h5, h5, h5, h5, h5, h5, h5, ih k (by simpa using hk)]
section
variable {W W' : World} {rb room : Nat} {lv : Value} {L : List Rc}
theorem Rh.zero {g n cap k : Nat} (h : Rh W rb (.slice (some ⟨g, 0, none⟩) n cap) room L) (hk : k < L.length) : Rh (((((((((W.setCell ⟨g, k * 9, none⟩ (.int .i64 0)).setCell ⟨g, k * 9 + 1, none⟩ (.bool false)).setCell ⟨g, k * 9 + 2, none⟩ (.int .i64 0)).setCell ⟨g, k * 9 + 3, none⟩ (.slice none 0 0)).setCell ⟨g, k * 9 + 4, none⟩ (.slice none 0 0)).setCell ⟨g, k * 9 + 5, none⟩ (.int .i64 0)).setCell ⟨g, k * 9 + 6, none⟩ (.int .i64 0)).setCell ⟨g, k * 9 + 7, none⟩ (.int .i64 0)).setCell ⟨g, k * 9 + 8, none⟩ (.bool false)) rb (.slice (some ⟨g, 0, none⟩) n cap) room (L.set k .gone) ∧ Upd (fun x => x = g) W (((((((((W.setCell ⟨g, k * 9, none⟩ (.int .i64 0)).setCell ⟨g, k * 9 + 1, none⟩ (.bool false)).setCell ⟨g, k * 9 + 2, none⟩ (.int .i64 0)).setCell ⟨g, k * 9 + 3, none⟩ (.slice none 0 0)).setCell ⟨g, k * 9 + 4, none⟩ (.slice none 0 0)).setCell ⟨g, k * 9 + 5, none⟩ (.int .i64 0)).setCell ⟨g, k * 9 + 6, none⟩ (.int .i64 0)).setCell ⟨g, k * 9 + 7, none⟩ (.int .i64 0)).setCell ⟨g, k * 9 + 8, none⟩ (.bool false)) := by
  obtain ⟨o, cap', hv⟩ := slice_of h.row
  injection hv with _ hn _
  subst hn
  have ng : rb ≠ g := fun e => h.own (by rw [e]; rfl)
  have us : ∀ {b : World}, Upd (fun x => x = g) W b → ∀ (o : Nat) (v : Value), Upd (fun x => x = g) W (b.setCell ⟨g, o, none⟩ v) := fun h o v => h.setCell (p := ⟨g, o, none⟩) (.inl rfl) v
  refine ⟨⟨?_, ?_, h.own, by rw [List.length_set]; exact h.len⟩, ?_⟩
  · rw [Below.heap_setCell _ _ _ _ ng, Below.heap_setCell _ _ _ _ ng, Below.heap_setCell _ _ _ _ ng, Below.heap_setCell _ _ _ _ ng, Below.heap_setCell _ _ _ _ ng, Below.heap_setCell _ _ _ _ ng, Below.heap_setCell _ _ _ _ ng, Below.heap_setCell _ _ _ _ ng, Below.heap_setCell _ _ _ _ ng]
    exact h.top
  · rw [List.length_set, ← flatR_nine L k hk]
    have b : ∀ j, j < 9 → k * 9 + j < L.length * 9 := fun j hj => by omega
    exact own_put9 (own_put9 (own_put9 (own_put9 (own_put9 (own_put9 (own_put9 (own_put9 (own_put9 h.row _ _ (b 0 (by omega))) _ _ (b 1 (by omega))) _ _ (b 2 (by omega))) _ _ (b 3 (by omega))) _ _ (b 4 (by omega))) _ _ (b 5 (by omega))) _ _ (b 6 (by omega))) _ _ (b 7 (by omega))) _ _ (b 8 (by omega))
  · exact us (us (us (us (us (us (us (us (us (Upd.refl _ W) _ _) _ _) _ _) _ _) _ _) _ _) _ _) _ _) _ _
theorem Rh.snoc (h : Rh W rb lv room L) (hl : L.length < 100000) (c : Rc) (ty : TypeId) :
    ∃ v' w', (Builtin.append_ #[29, 29] ty #[lv, .slice (some ⟨W.heap.size, 0, none⟩) 1 1]).run Tryz.prog (W.alloc (.cells c.cells.toArray 73)) = .ok v' w' ∧ Rh (w'.setCell ⟨rb, 1, none⟩ v') rb v' room (L ++ [c]) ∧ Upd (fun k => k = rb ∨ lv.ownBlock = some k) W (w'.setCell ⟨rb, 1, none⟩ v') ∧ (∀ k, v'.ownBlock = some k → lv.ownBlock = some k ∨ W.heap.size ≤ k) ∧ (∀ k, k < W.heap.size → lv.ownBlock ≠ some k → w'.heap[k]? = W.heap[k]?) ∧ ∃ o cap, v' = .slice o (L.length + 1) cap := by
  obtain ⟨i0, hi, hz0, hz1, hz2⟩ := info_parts infoRc
  have hB : Below W.heap.size W (W.alloc (.cells c.cells.toArray 73)) := (Below.refl _ W).alloc (Nat.le_refl _) _
  have hn := World.cell?_alloc_new W c.cells.toArray 73
  have h1 := h.below hB
  obtain ⟨v', w', r1, r2, r3, r4⟩ := append_wide (P := Tryz.prog) (W.alloc (.cells c.cells.toArray 73)) 29 ty 73 i0 _ 9 104 underRc hi hz0 hz1 hz2 rfl (by omega) lv L.length (flatR L) h1.row ⟨W.heap.size, 0, none⟩ 1 1 c.cells (by rw [c.cells_len]) (by
    intro j u hj
    have e1 : ((⟨W.heap.size, 0, none⟩ : Addr).add j) = ⟨W.heap.size, j, none⟩ := by unfold Addr.add; split <;> simp_all
    rw [e1, hn j, List.getElem?_toArray]
    exact hj) (rc_one c) (by omega) (by omega) (by omega)
  have hU : Upd (fun k => k = rb ∨ lv.ownBlock = some k) W w' := ((Upd.refl _ W).alloc _).grown r3 (fun k e => .inl (.inr e))
  have hsz : (W.alloc (.cells c.cells.toArray 73)).heap.size = W.heap.size + 1 := by simp
  have hk : ∀ k, k < W.heap.size → lv.ownBlock ≠ some k → w'.heap[k]? = W.heap[k]? := by
    intro k hk hne
    rw [r3.block k (by rw [hsz]; omega) (fun e => hne e.symm)]
    exact hB.block k hk
  have hrb := h.lt rb (.inl rfl)
  have hvb : v'.ownBlock ≠ some rb := by
    intro e
    rcases r4 rb e with e | e
    · exact h.own e
    · omega
  refine ⟨v', w', r1, ⟨?_, ?_, hvb, by simp; omega⟩, hU.setCell (p := ⟨rb, 1, none⟩) (.inl (.inl rfl)) _, ?_, hk, ?_⟩
  · have e := (hk rb hrb h.own).trans h.top
    have := heap_set (c := [.int .i64 (room : Nat), lv]) e 1 v'
    simpa using this
  · have := ownsRow_setCell_other r2 (a := ⟨rb, 1, none⟩) (by simpa using hvb) v'
    rw [flatR_app, List.length_append]
    simpa [flatR] using this
  · intro k e
    rcases r4 k e with e | e
    · exact .inl e
    · exact .inr (by omega)
  · obtain ⟨o, cap, hv⟩ := slice_of r2
    exact ⟨o, cap, hv⟩
end
/-- what Put of the reference's heap answers -/
def PPost (W : World) (rb : Nat) (lv : Value) (room : Nat) (L : List Rc) (ks : List Int) (c : Rc) (e : Ending) (w' : World) : Prop :=
  ∃ lv', Upd (fun k => k = rb ∨ lv.ownBlock = some k) W w' ∧ (∀ k, lv'.ownBlock = some k → lv.ownBlock = some k ∨ W.heap.size ≤ k) ∧
    ((sumK L ks L.length + c.need ≤ room ∧ e = .returned (.tuple #[.int .i64 (L.length : Nat), .int .i64 0]) ∧ Rh w' rb lv' room (keepK L ks L.length ++ [c])) ∨
     (room < sumK L ks L.length + c.need ∧ e = .returned (.tuple #[.int .i64 0, .int .i64 40]) ∧ Rh w' rb lv' room (keepK L ks L.length)))
end Go.Proofs.YtgkfgegfjklnbaaGreat.W
/- A region of a round that holds a yield of a loop around: as in no round. -/
namespace Go.Proofs.YtgkfgegfjklnbaaGreat.W
open Go.ChangeShapes Go.WideShapes Go.RowKit Go.Shelf
set_option linter.unusedVariables false
end Go.Proofs.YtgkfgegfjklnbaaGreat.W
