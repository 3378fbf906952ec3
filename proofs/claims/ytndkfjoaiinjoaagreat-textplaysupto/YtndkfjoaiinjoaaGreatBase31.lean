import Derived.Test.YtndkfjoaiinjoaaGreatBase30
import Derived.Test.YtndkfjoaiinjoaaGreatBase15
import Derived.Test.YtndkfjoaiinjoaaGreatBase3
import Derived.OrdersHeld
/- The reference's heap: what is reached from values. -/
namespace Go.Proofs.YtndkfjoaiinjoaaGreat.W
open Go.ChangeShapes Go.WideShapes Go.RowKit Go.Shelf
set_option linter.unusedVariables false
/-- which of the first n are cells of these values -/
def metL (n : Nat) (vs : List Tv) : List Bool := (List.range n).map (fun (k : Nat) => decide (((k : Nat) : Int) ∈ vs.map Tv.cell))
theorem metL_len (n : Nat) (vs : List Tv) : (metL n vs).length = n := by simp [metL]
theorem metL_get (n : Nat) (vs : List Tv) (k : Nat) (h : k < n) : (metL n vs)[k]? = some (decide ((k : Int) ∈ vs.map Tv.cell)) := by
  unfold metL
  rw [List.getElem?_map, List.getElem?_range h]
  rfl
theorem metL_nil (n : Nat) : metL n [] = List.replicate n false := by
  apply List.ext_getElem?
  intro k
  by_cases h : k < n
  · rw [metL_get n [] k h, List.getElem?_replicate, if_pos h]; simp
  · rw [List.getElem?_eq_none (by rw [metL_len]; omega), List.getElem?_eq_none (by simp; omega)]
theorem metL_same (n : Nat) (vs : List Tv) (v : Tv) (h : v.cell < 0 ∨ v.cell ∈ vs.map Tv.cell) : metL n (vs ++ [v]) = metL n vs := by
  unfold metL
  apply List.map_congr_left
  intro k _
  rw [List.map_append, List.map_cons, List.map_nil]
  congr 1
  apply propext
  rw [List.mem_append]
  constructor
  · rintro (c | c)
    · exact c
    · simp at c
      rcases h with h | h
      · omega
      · rw [c]; exact h
  · exact .inl
theorem metL_set (n : Nat) (vs : List Tv) (v : Tv) (k : Nat) (h : v.cell = k) (hk : k < n) : metL n (vs ++ [v]) = (metL n vs).set k true := by
  apply List.ext_getElem?
  intro j
  by_cases hj : j < n
  · rw [metL_get n _ j hj]
    by_cases e : j = k
    · subst e
      rw [List.getElem?_set_self (by rw [metL_len]; exact hj)]
      simp [h]
    · rw [List.getElem?_set_ne (fun c => e c.symm), metL_get n _ j hj]
      congr 1
      rw [List.map_append, List.map_cons, List.map_nil]
      have : ((j : Int) ∈ vs.map Tv.cell ++ [v.cell]) ↔ ((j : Int) ∈ vs.map Tv.cell) := by
        rw [List.mem_append]
        constructor
        · rintro (c | c)
          · exact c
          · simp at c; omega
        · exact .inl
      simp only [this]
  · rw [List.getElem?_eq_none (by rw [metL_len]; omega), List.getElem?_eq_none (by rw [List.length_set, metL_len]; omega)]
theorem set_map_bool (xs : List Bool) (k : Nat) (b : Bool) : (xs.map Value.bool).set k (.bool b) = (xs.set k b).map Value.bool := by
  rw [List.map_set]
set_option maxRecDepth 100000 in
set_option maxHeartbeats 1000000 in
theorem reached_c {W : World} {rb room : Nat} {lv : Value} {L : List Rc} (h : Rh W rb lv room L) (vr : Value) (vs : List Tv) (hr : W.ownsRow 0 95 5 vr vs.length (flatT vs)) (hin : ∀ v ∈ vs, v.cell < 0 ∨ ∃ k : Nat, v.cell = k ∧ k < L.length) (hn : vs.length ≤ 3000000) :
    Calls Tryz.prog 108 #[.pointer (some ⟨rb, 0, none⟩), vr] W fun e w' => ∃ mb, e = .returned (.slice (some ⟨mb, 0, none⟩) L.length L.length) ∧ w'.ownsRow 0 4 1 (.slice (some ⟨mb, 0, none⟩) L.length L.length) L.length ((metL L.length vs).map .bool) ∧ W.heap.size ≤ mb ∧ Below W.heap.size W w' := by
  obtain ⟨ol, capl, rfl⟩ := slice_of h.row
  obtain ⟨orr, capr, rfl⟩ := slice_of hr
  have c1 : W.cell? ⟨rb, 1, none⟩ = some (.slice ol L.length capl) := cell_of_row _ _ 1 _ _ _ h.top
  obtain ⟨w1, hmk, hm1, hg1⟩ := make_bools W L.length (by have := h.len; omega)
  have hB1 : Below W.heap.size W w1 := (Below.refl _ W).grown hg1 (Nat.le_refl _) (fun k e => by cases e)
  have hB2 : Below w1.heap.size w1 (w1.alloc (.cells #[] 95)) := (Below.refl _ w1).alloc (Nat.le_refl _) _
  have hB12 := hB1.trans (hB2.mono hB1.size)
  have h0 := World.ownsRow_lit (base := 0) (e := 95) (size := 5) w1 #[] 0 (Nat.zero_le _) (by simp) (by simp)
  obtain ⟨wv, w2, hrun, hwv, hgw, hwk⟩ := app_vals (w1.alloc (.cells #[] 95)) 57 (.slice (some ⟨w1.heap.size, 0, none⟩) 0 0) [] (by simpa [flatT] using h0) (.slice orr vs.length capr) vs (owns_on hr (fun k e => hB12.block k (hr.lt k e).2)) (by simp; omega)
  have hw2 : Below W.heap.size W w2 := hB12.grown hgw hB12.size (fun k e => by cases e; exact hB1.size)
  have hBw : Below w1.heap.size w1 w2 := hB2.grown hgw hB2.size (fun k e => by cases e; exact Nat.le_refl _)
  have hmb : w2.ownsRow 0 4 1 (.slice (some ⟨W.heap.size, 0, none⟩) L.length L.length) L.length ((metL L.length []).map .bool) := by
    rw [metL_nil]
    exact owns_on (owns_base hm1 (fun _ _ => Nat.zero_le _)) (fun k e => hBw.block k (hm1.lt k e).2)
  have hlt1 : W.heap.size < w1.heap.size := (hm1.lt W.heap.size rfl).2
  have HX := hid (show (∀ k, wv.ownBlock = some k → W.heap.size < k) from fun k e => by
    rcases hwk k e with e | e
    · have e' : w1.heap.size = k := by simpa [Value.ownBlock] using e
      omega
    · have := hB2.size
      omega)
  have HR := hid h
  have HI := hid hin
  have HV := hid (owns_base hwv (b' := 0) (fun _ _ => Nat.zero_le _))
  rw [List.nil_append] at HV
  obtain ⟨ow, capw, hwe⟩ := slice_of HV.out
  obtain ⟨n, hvn⟩ : ∃ n, vs.length = n := ⟨_, rfl⟩
  obtain ⟨m, hLm⟩ : ∃ m, L.length = m := ⟨_, rfl⟩
  have hwB := hid hw2
  have hmB := hid hmb
  have hrL := h.len
  subst hwe
  rw [hvn] at hrun hn HV
  clear hwv hwk hgw h0 hm1 hg1 hB1 hB2 hB12 hr h hin hw2 hmb hBw hlt1
  rw [hLm] at c1 hmk hrL hmB
  rw [hvn, hLm]
  have VN := hid hvn
  have LM := hid hLm
  clear hvn hLm
  go_enter Tryz.func108, Tryz.ntmps108
  go_upto_region 3 with (at_builtin; refine Lib.wpList_append_run _ rfl (.tmp 15) (.tmp 16) 57 57 rfl _ _ (by simp [Act.eval]) (by simp [Act.eval]) _ _ hrun ?_)
  clear hrun hmk
  go_wp2
  go_loopw [6, 7, 8] (fun ww ii kk wr => ∃ j : Nat, j ≤ n ∧ ii = .int .i64 j ∧ ww = .slice ow n capw ∧ wr.ownsRow 0 4 1 (.slice (some ⟨W.heap.size, 0, none⟩) m m) m ((metL m (vs.take j)).map .bool) ∧ wr.ownsRow 0 95 5 (.slice ow n capw) n (flatT vs) ∧ Below W.heap.size W wr) (fun _ ii _ _ => n - (intOf ii).toNat)
  case atStart => exact ⟨0, Nat.zero_le _, rfl, rfl, by simpa using hmB.out, HV.out, hwB.out⟩
  case round =>
    obtain ⟨j, hj, rfl, rfl, hm, hv, hB⟩ := hrel
    by_cases hjn : j < n
    · obtain ⟨v, hv0⟩ : ∃ v, vs[j]? = some v := ⟨_, List.getElem?_eq_getElem (by rw [VN.out]; exact hjn)⟩
      have htk : vs.take (j + 1) = vs.take j ++ [v] := by rw [List.take_add_one, hv0]; rfl
      have hvm : v ∈ vs := List.mem_of_getElem? hv0
      obtain ⟨g, cap', hve, _⟩ := own_slice hv (by omega)
      injection hve with hv1 hv2 hv3
      subst hv1
      clear hv2 hv3
      have c4 : wr.cell? ⟨g, j * 5 + 4, none⟩ = some (.int .i64 v.cell) := by
        rw [(own_cell9 hv (j * 5 + 4) (by omega)).1, flatT_get vs j 4 v hv0 (by omega)]
        rfl
      have k0 : (0 : Int) ≤ j := Int.natCast_nonneg _
      have k1 : (j : Int) < n := by omega
      have wk : IntKind.i64.wrap ((j : Int) + 1) = (j : Int) + 1 := by rw [IntKind.wrap_i64]; omega
      have HM := hid (show n - ((j : Int) + 1).toNat < n - ((j : Int)).toNat by omega)
      have HJ := hid (show j + 1 ≤ n by omega)
      by_cases hneg : v.cell < 0
      · have S1 := hid (show wr.ownsRow 0 4 1 (.slice (some ⟨W.heap.size, 0, none⟩) m m) m ((metL m (vs.take (j + 1))).map .bool) by rw [htk, metL_same m _ v (.inl hneg)]; exact hm)
        have S2 := hid (And.intro hv hB)
        clear hm hv hB hj hjn hv0 htk hvm HR HI HX hmB hwB HV VN LM c1
        go_wp2
        go_roundw
        case rel => exact ⟨j + 1, HJ.out, rfl, rfl, S1.out, S2.out.1, S2.out.2⟩
        case measure => exact HM.out
      · obtain ⟨k, hk, hkm⟩ : ∃ k : Nat, v.cell = k ∧ k < m := by
          rcases HI.out v hvm with c | ⟨k, h1, h2⟩
          · exact absurd c hneg
          · exact ⟨k, h1, by rw [← LM.out]; exact h2⟩
        rw [hk] at c4
        have hneg' : ¬ (k : Int) < 0 := by omega
        have k2 : (0 : Int) ≤ k := Int.natCast_nonneg _
        have k3 : (k : Int) < m := by omega
        have cm := own_cell9 hm k (by omega)
        have cm1 : wr.cell? ⟨W.heap.size, k, none⟩ = some (.bool (decide ((k : Int) ∈ (vs.take j).map Tv.cell))) := by
          rw [cm.1, List.getElem?_map, metL_get m _ k hkm]
          rfl
        have cm2 := cm.2
        clear cm
        by_cases hmem : (k : Int) ∈ (vs.take j).map Tv.cell
        · rw [decide_eq_true hmem] at cm1
          have S1 := hid (show wr.ownsRow 0 4 1 (.slice (some ⟨W.heap.size, 0, none⟩) m m) m ((metL m (vs.take (j + 1))).map .bool) by rw [htk, metL_same m _ v (.inr (by rw [hk]; exact hmem))]; exact hm)
          have S2 := hid (And.intro hv hB)
          clear hm hv hB hj hjn hv0 htk hvm HR HI HX hmB hwB HV VN LM c1 hneg hk hkm hmem cm2
          go_wp2
          go_roundw
          case rel => exact ⟨j + 1, HJ.out, rfl, rfl, S1.out, S2.out.1, S2.out.2⟩
          case measure => exact HM.out
        · rw [decide_eq_false hmem] at cm1
          obtain ⟨c, hc⟩ : ∃ c, L[k]? = some c := ⟨_, List.getElem?_eq_getElem (by rw [LM.out]; exact hkm)⟩
          have hRr := HR.out.below hB
          obtain ⟨gl, capl', hle, _⟩ := own_slice hRr.row (by rw [LM.out]; omega)
          injection hle with hl1 hl2 hl3
          subst hl1
          clear hl2 hl3
          have nl : W.heap.size ≠ gl := by
            have := HR.out.lt gl (.inr rfl)
            omega
          have nr : W.heap.size ≠ rb := by
            have := HR.out.lt rb (.inl rfl)
            omega
          have ng : g ≠ W.heap.size := by have := HX.out g rfl; omega
          have wM := own_put9 hm k (.bool true) (by omega)
          rw [set_map_bool, ← metL_set m (vs.take j) v k hk hkm, ← htk] at wM
          have wV : (wr.setCell ⟨W.heap.size, k, none⟩ (.bool true)).ownsRow 0 95 5 (.slice (some ⟨g, 0, none⟩) n capw) n (flatT vs) := ownsRow_setCell_other hv (a := ⟨W.heap.size, k, none⟩) (by simp [Value.ownBlock]; exact ng) _
          have wB : Below W.heap.size W (wr.setCell ⟨W.heap.size, k, none⟩ (.bool true)) := hB.setCell (p := ⟨W.heap.size, k, none⟩) (Nat.le_refl _) _
          have d1 : (wr.setCell ⟨W.heap.size, k, none⟩ (.bool true)).cell? ⟨rb, 1, none⟩ = some (.slice (some ⟨gl, 0, none⟩) m capl) := by
            rw [World.cell?_setCell_far _ _ _ _ nr]
            have := cell_of_row _ rb 1 _ _ _ hRr.top
            rw [this, LM.out]
            rfl
          have d2 : (wr.setCell ⟨W.heap.size, k, none⟩ (.bool true)).cell? ⟨gl, k * 9 + 1, none⟩ = some (.bool false) := by
            rw [World.cell?_setCell_far _ _ _ _ nl, hRr.cell hc (by omega)]
            cases c <;> rfl
          have d3 : (wr.setCell ⟨W.heap.size, k, none⟩ (.bool true)).cell? ⟨gl, k * 9 + 4, none⟩ = some (.slice none 0 0) := by
            rw [World.cell?_setCell_far _ _ _ _ nl, hRr.cell hc (by omega)]
            cases c <;> rfl
          have hap := fun ty => app_none (wr.setCell ⟨W.heap.size, k, none⟩ (.bool true)) ty _ _ _ wV
          have S1 := hid wM
          have S2 := hid (And.intro wV wB)
          clear hm hv hB hj hjn hv0 htk hvm HR HI HX hmB hwB HV VN LM c1 hneg hk hkm hmem wM wV wB hRr hc nl nr ng
          go_upto_region 11 with fail
          go_wp2_with (at_builtin; refine Lib.wpList_append_run _ rfl (.tmp 60) (.tmp 68) 57 57 rfl _ _ (by simp [Act.eval]) (by simp [Act.eval]) _ _ (hap _) ?_)
          go_roundw
          case rel => exact ⟨j + 1, HJ.out, rfl, rfl, S1.out, S2.out.1, S2.out.2⟩
          case measure => exact HM.out
    · have e1 : j = n := by omega
      subst e1
      have hk1 : ¬ (j : Int) < j := by omega
      have htk : vs.take j = vs := by rw [← VN.out]; exact List.take_length
      rw [htk] at hm
      have S1 := hid hm
      have S2 := hid hB
      clear hm hv hB hj hjn htk HR HI HX hmB hwB HV VN LM c1
      go_wp2
      go_ret
      exact ⟨_, rfl, S1.out, Nat.le_refl _, S2.out⟩
end Go.Proofs.YtndkfjoaiinjoaaGreat.W
/- The reference's heap: a cell that is struck out, one that is put behind; Need of a cell that is not held yet. -/
namespace Go.Proofs.YtndkfjoaiinjoaaGreat.W
open Go.ChangeShapes Go.WideShapes Go.RowKit Go.Shelf
set_option linter.unusedVariables false
def Rc.kd : Rc → Int
  | .gone => 0
  | .num => 2
  | .txt _ => 4
def Rc.ch : Rc → Nat
  | .txt n => n
  | _ => 0
theorem Rc.cells_eq (c : Rc) : c.cells = [.int .i64 c.kd, .bool false, .int .i64 (c.ch : Nat), .slice none 0 0, .slice none 0 0, .int .i64 0, .int .i64 0, .int .i64 0, .bool c.held] := by cases c <;> rfl
theorem Rc.need_le (c : Rc) (h : c.ch ≤ 100000000) : c.need ≤ 12500002 := by
  cases c with
  | gone => exact (by omega : 1 ≤ 12500002)
  | num => exact (by omega : 2 ≤ 12500002)
  | txt n => simp only [Rc.need, Rc.ch] at *; omega
theorem sumK_le (L : List Rc) (ks : List Int) (hL : ∀ c ∈ L, c.ch ≤ 100000000) (n : Nat) : sumK L ks n ≤ n * 12500002 := by
  induction n with
  | zero => simp [sumK]
  | succ n ih =>
    unfold sumK
    have : ((L[n]?).getD .gone).need ≤ 12500002 := by
      cases hc : L[n]? with
      | none => exact (by omega : 1 ≤ 12500002)
      | some c => exact c.need_le (hL c (List.mem_of_getElem? hc))
    rw [Nat.add_mul, Nat.one_mul]
    split
    · exact Nat.add_le_add ih this
    · exact Nat.add_le_add ih (Nat.zero_le _)
set_option maxRecDepth 100000 in
theorem need7_r (c : Rc) (hc : c.ch ≤ 100000000) (b : Bool) (W : World) : Calls Tryz.prog 109 #[.agg #[.int .i64 c.kd, .bool false, .int .i64 (c.ch : Nat), .slice none 0 0, .slice none 0 0, .int .i64 0, .int .i64 0, .int .i64 0, .bool b]] W fun e w' => e = .returned (.int .i64 (c.need : Nat)) ∧ Below W.heap.size W w' := by
  cases c with
  | gone =>
    simp only [Rc.kd, Rc.ch]
    go_enter Tryz.func109, Tryz.ntmps109
    go_wp2
    go_ret
    exact ⟨rfl, (Below.refl _ W).alloc (Nat.le_refl _) _⟩
  | num =>
    simp only [Rc.kd, Rc.ch]
    go_enter Tryz.func109, Tryz.ntmps109
    go_wp2
    go_ret
    exact ⟨rfl, (Below.refl _ W).alloc (Nat.le_refl _) _⟩
  | txt n =>
    simp only [Rc.kd, Rc.ch] at *
    have w1 : IntKind.i64.wrap ((n : Int) + 7) = (n : Int) + 7 := by rw [IntKind.wrap_i64]; omega
    have w2 : IntKind.i64.wrap (((n : Int) + 7).tdiv 8) = ((n : Int) + 7) / 8 := by rw [IntKind.wrap_i64, Int.tdiv_eq_ediv_of_nonneg (by omega)]; omega
    have w3 : IntKind.i64.wrap (1 + ((n : Int) + 7) / 8) = 1 + ((n : Int) + 7) / 8 := by rw [IntKind.wrap_i64]; omega
    have HN := hid (show ((Rc.txt n).need : Int) = 1 + ((n : Int) + 7) / 8 by show ((1 + (n + 7) / 8 : Nat) : Int) = _; omega)
    clear hc
    go_enter Tryz.func109, Tryz.ntmps109
    go_wp2
    go_ret
    exact ⟨by rw [HN.out]; rfl, (Below.refl _ W).alloc (Nat.le_refl _) _⟩
theorem flatR_cons (a : Rc) (L : List Rc) : flatR (a :: L) = a.cells ++ flatR L := by simp [flatR]
theorem flatR_nine (L : List Rc) (k : Nat) (hk : k < L.length) : (((((((((flatR L).set (k * 9) (.int .i64 0)).set (k * 9 + 1) (.bool false)).set (k * 9 + 2) (.int .i64 0)).set (k * 9 + 3) (.slice none 0 0)).set (k * 9 + 4) (.slice none 0 0)).set (k * 9 + 5) (.int .i64 0)).set (k * 9 + 6) (.int .i64 0)).set (k * 9 + 7) (.int .i64 0)).set (k * 9 + 8) (.bool false) = flatR (L.set k .gone) := by
  induction L generalizing k with
  | nil => simp at hk
  | cons a L ih =>
    cases k with
    | zero =>
      rw [List.set_cons_zero, flatR_cons, flatR_cons, Rc.cells_eq a]
      simp [Rc.cells]
    | succ k =>
      have h5 : ∀ (l : List Value) (j : Nat) (v : Value), (a.cells ++ l).set ((k + 1) * 9 + j) v = a.cells ++ l.set (k * 9 + j) v := by
        intro l j v
        rw [List.set_append_right _ _ (by rw [Rc.cells_len]; omega), Rc.cells_len]
        congr 2
        omega
      have h50 : ∀ (l : List Value) (v : Value), (a.cells ++ l).set ((k + 1) * 9) v = a.cells ++ l.set (k * 9) v := fun l v => h5 l 0 v
      rw [List.set_cons_succ, flatR_cons, flatR_cons, h50, h5, h5, h5, h5, h5, h5, h5, h5, ih k (by simpa using hk)]
section
variable {W W' : World} {rb room : Nat} {lv : Value} {L : List Rc}
theorem Rh.zero {g n cap k : Nat} (h : Rh W rb (.slice (some ⟨g, 0, none⟩) n cap) room L) (hk : k < L.length) : Rh (((((((((W.setCell ⟨g, k * 9, none⟩ (.int .i64 0)).setCell ⟨g, k * 9 + 1, none⟩ (.bool false)).setCell ⟨g, k * 9 + 2, none⟩ (.int .i64 0)).setCell ⟨g, k * 9 + 3, none⟩ (.slice none 0 0)).setCell ⟨g, k * 9 + 4, none⟩ (.slice none 0 0)).setCell ⟨g, k * 9 + 5, none⟩ (.int .i64 0)).setCell ⟨g, k * 9 + 6, none⟩ (.int .i64 0)).setCell ⟨g, k * 9 + 7, none⟩ (.int .i64 0)).setCell ⟨g, k * 9 + 8, none⟩ (.bool false)) rb (.slice (some ⟨g, 0, none⟩) n cap) room (L.set k .gone) ∧ Upd (fun x => x = g) W (((((((((W.setCell ⟨g, k * 9, none⟩ (.int .i64 0)).setCell ⟨g, k * 9 + 1, none⟩ (.bool false)).setCell ⟨g, k * 9 + 2, none⟩ (.int .i64 0)).setCell ⟨g, k * 9 + 3, none⟩ (.slice none 0 0)).setCell ⟨g, k * 9 + 4, none⟩ (.slice none 0 0)).setCell ⟨g, k * 9 + 5, none⟩ (.int .i64 0)).setCell ⟨g, k * 9 + 6, none⟩ (.int .i64 0)).setCell ⟨g, k * 9 + 7, none⟩ (.int .i64 0)).setCell ⟨g, k * 9 + 8, none⟩ (.bool false)) := by
  obtain ⟨o, cap', hv⟩ := slice_of h.row
  injection hv with _ hn _
  subst hn
  have ng : rb ≠ g := fun e => h.own (by rw [e]; rfl)
  have us : ∀ {b : World}, Upd (fun x => x = g) W b → ∀ (o : Nat) (v : Value), Upd (fun x => x = g) W (b.setCell ⟨g, o, none⟩ v) := fun h o v => h.setCell (p := ⟨g, o, none⟩) (.inl rfl) v
  refine ⟨⟨?_, ?_, h.own, by rw [List.length_set]; exact h.len⟩, ?_⟩
  · rw [Below.heap_setCell _ _ _ _ ng, Below.heap_setCell _ _ _ _ ng, Below.heap_setCell _ _ _ _ ng, Below.heap_setCell _ _ _ _ ng, Below.heap_setCell _ _ _ _ ng, Below.heap_setCell _ _ _ _ ng, Below.heap_setCell _ _ _ _ ng, Below.heap_setCell _ _ _ _ ng, Below.heap_setCell _ _ _ _ ng]
    exact h.top
  · rw [List.length_set, ← flatR_nine L k hk]
    have b : ∀ j, j < 9 → k * 9 + j < L.length * 9 := fun j hj => by omega
    exact own_put9 (own_put9 (own_put9 (own_put9 (own_put9 (own_put9 (own_put9 (own_put9 (own_put9 h.row _ _ (b 0 (by omega))) _ _ (b 1 (by omega))) _ _ (b 2 (by omega))) _ _ (b 3 (by omega))) _ _ (b 4 (by omega))) _ _ (b 5 (by omega))) _ _ (b 6 (by omega))) _ _ (b 7 (by omega))) _ _ (b 8 (by omega))
  · exact us (us (us (us (us (us (us (us (us (Upd.refl _ W) _ _) _ _) _ _) _ _) _ _) _ _) _ _) _ _) _ _
theorem Rh.snoc (h : Rh W rb lv room L) (hl : L.length < 100000) (c : Rc) (ty : TypeId) :
    ∃ v' w', (Builtin.append_ #[54, 54] ty #[lv, .slice (some ⟨W.heap.size, 0, none⟩) 1 1]).run Tryz.prog (W.alloc (.cells c.cells.toArray 105)) = .ok v' w' ∧ Rh (w'.setCell ⟨rb, 1, none⟩ v') rb v' room (L ++ [c]) ∧ Upd (fun k => k = rb ∨ lv.ownBlock = some k) W (w'.setCell ⟨rb, 1, none⟩ v') ∧ (∀ k, v'.ownBlock = some k → lv.ownBlock = some k ∨ W.heap.size ≤ k) ∧ (∀ k, k < W.heap.size → lv.ownBlock ≠ some k → w'.heap[k]? = W.heap[k]?) ∧ ∃ o cap, v' = .slice o (L.length + 1) cap := by
  obtain ⟨i0, hi, hz0, hz1, hz2⟩ := info_parts infoRc
  have hB : Below W.heap.size W (W.alloc (.cells c.cells.toArray 105)) := (Below.refl _ W).alloc (Nat.le_refl _) _
  have hn := World.cell?_alloc_new W c.cells.toArray 105
  have h1 := h.below hB
  obtain ⟨v', w', r1, r2, r3, r4⟩ := append_wide (P := Tryz.prog) (W.alloc (.cells c.cells.toArray 105)) 54 ty 105 i0 _ 9 104 underRc hi hz0 hz1 hz2 rfl (by omega) lv L.length (flatR L) h1.row ⟨W.heap.size, 0, none⟩ 1 1 c.cells (by rw [c.cells_len]) (by
    intro j u hj
    have e1 : ((⟨W.heap.size, 0, none⟩ : Addr).add j) = ⟨W.heap.size, j, none⟩ := by unfold Addr.add; split <;> simp_all
    rw [e1, hn j, List.getElem?_toArray]
    exact hj) (rc_one c) (by omega) (by omega) (by omega)
  have hU : Upd (fun k => k = rb ∨ lv.ownBlock = some k) W w' := ((Upd.refl _ W).alloc _).grown r3 (fun k e => .inl (.inr e))
  have hsz : (W.alloc (.cells c.cells.toArray 105)).heap.size = W.heap.size + 1 := by simp
  have hk : ∀ k, k < W.heap.size → lv.ownBlock ≠ some k → w'.heap[k]? = W.heap[k]? := by
    intro k hk hne
    rw [r3.block k (by rw [hsz]; omega) (fun e => hne e.symm)]
    exact hB.block k hk
  have hrb := h.lt rb (.inl rfl)
  have hvb : v'.ownBlock ≠ some rb := by
    intro e
    rcases r4 rb e with e | e
    · exact h.own e
    · omega
  refine ⟨v', w', r1, ⟨?_, ?_, hvb, by simp; omega⟩, hU.setCell (p := ⟨rb, 1, none⟩) (.inl (.inl rfl)) _, ?_, hk, ?_⟩
  · have e := (hk rb hrb h.own).trans h.top
    have := heap_set (c := [.int .i64 (room : Nat), lv]) e 1 v'
    simpa using this
  · have := ownsRow_setCell_other r2 (a := ⟨rb, 1, none⟩) (by simpa using hvb) v'
    rw [flatR_app, List.length_append]
    simpa [flatR] using this
  · intro k e
    rcases r4 k e with e | e
    · exact .inl e
    · exact .inr (by omega)
  · obtain ⟨o, cap, hv⟩ := slice_of r2
    exact ⟨o, cap, hv⟩
end
/-- what Put of the reference's heap answers -/
def PPost (W : World) (rb : Nat) (lv : Value) (room : Nat) (L : List Rc) (ks : List Int) (c : Rc) (e : Ending) (w' : World) : Prop :=
  ∃ lv', Upd (fun k => k = rb ∨ lv.ownBlock = some k) W w' ∧ (∀ k, lv'.ownBlock = some k → lv.ownBlock = some k ∨ W.heap.size ≤ k) ∧
    ((sumK L ks L.length + c.need ≤ room ∧ e = .returned (.tuple #[.int .i64 (L.length : Nat), .int .i64 0]) ∧ Rh w' rb lv' room (keepK L ks L.length ++ [c])) ∨
     (room < sumK L ks L.length + c.need ∧ e = .returned (.tuple #[.int .i64 0, .int .i64 40]) ∧ Rh w' rb lv' room (keepK L ks L.length)))
end Go.Proofs.YtndkfjoaiinjoaaGreat.W
/- A region of a round that holds a yield of a loop around: as in no round. -/
namespace Go.Proofs.YtndkfjoaiinjoaaGreat.W
open Go.ChangeShapes Go.WideShapes Go.RowKit Go.Shelf
set_option linter.unusedVariables false
end Go.Proofs.YtndkfjoaiinjoaaGreat.W
/- A region that draws its order and holds a yield: what only reads is taken first. -/
namespace Go.Proofs.YtndkfjoaiinjoaaGreat.W
open Go.ChangeShapes Go.WideShapes Go.RowKit Go.Shelf
set_option linter.unusedVariables false
section
variable {n : Nat} {P : Program} {ops : Array Oper} {Q : Exit → Act → World → Prop} {md : Region.Mode} {S : World → Prop}
/-- what is left of an operation's question at the wide fence, at a result r -/
theorem semWide (o : Oper) (a : Act) : o.semAt Fence.wide.round a.eval = execOp a.eval o := rfl
theorem opIn_swap {j : Nat} {oi oj : Oper} {v : Value} (hj : ops[j]? = some oj) (hap : oi.apart ops oj = true) (hsi : ∀ cs b, oi.op ≠ .select cs b) (hsj : ∀ cs b, oj.op ≠ .select cs b)
    (hQ : ∀ c a w, Q (.panic c) (a.put oi.dst v) w → Q (.panic c) a w) {K : Act → World → Prop} {a : Act} {w : World} (hy : YieldsIf P ops S oi v a) (h : wpOpIn Fence.wide n P ops Q j K (a.put oi.dst v) w) :
    wpOpIn Fence.wide n P ops Q j (fun a' w' => YieldsIf P ops S oi v a' ∧ K (a'.put oi.dst v) w') a w := by
  obtain ⟨p1, p2, p3⟩ := Oper.apart_spec hap
  have stay : ∀ (b : Act) u, YieldsIf P ops S oi v b → YieldsIf P ops S oi v (b.put oj.dst u) := fun b u hb => hb.of_same (execOp_put oi hsi b oj.dst u p3) (wanted_put oi b oj.dst u p3)
  have both : ∀ u w', K ((a.put oi.dst v).put oj.dst u) w' → YieldsIf P ops S oi v (a.put oj.dst u) ∧ K ((a.put oj.dst u).put oi.dst v) w' := fun u w' hk => ⟨stay a u hy, by rw [← Act.put_comm a v u p2]; exact hk⟩
  unfold wpOpIn at *
  rw [hj] at h ⊢
  simp only at h ⊢
  rw [wanted_put oj a oi.dst v p1] at h
  by_cases hw : Region.wanted oj (yielded ops a.tmps) = true
  · rw [if_pos hw] at h ⊢
    unfold Oper.wpIn at *
    refine ⟨fun _ _ => trivial, ?_⟩
    have h := h.2
    rw [semWide, execOp_put oj hsj a oi.dst v p1] at h
    rw [semWide]
    generalize (execOp a.eval oj).run P w = r at *
    cases r with
    | halt x w' => cases x <;> first | exact hQ _ _ _ h | exact h
    | ok x w' =>
      cases x with
      | value u => exact both u w' h
      | skip => exact both _ w' h
      | defer d =>
        refine ⟨stay _ _ (hy.of_same rfl rfl), ?_⟩
        rw [← Act.put_comm _ v undef p2, ← Act.put_defers]
        exact h
      | enter f args =>
        refine ⟨h.1, CallsIn.mono h.2 (fun e w2 he => ?_)⟩
        cases e with
        | returned u => exact both u w2 he
        | panicked c => exact hQ _ _ _ he
        | outgrown => exact he
      | row row args => exact ⟨h.1, RowsIn.mono h.2 (fun u w2 he => both u w2 he)⟩
      | round l f tmps assign body =>
        refine ⟨h.1, RoundIn.mono h.2 (fun e w2 he => ?_)⟩
        cases e with
        | returned u => exact both u w2 he
        | panicked c => exact hQ _ _ _ he
        | outgrown => exact he
      | _ => exact h
  · rw [if_neg hw] at h ⊢
    exact ⟨fun _ _ => trivial, both _ _ h.2⟩
theorem anyS_now {i : Nat} {oi : Oper} {v : Value} {a : Act} {w : World} (hi : ops[i]? = some oi) (hy : YieldsIf P ops S oi v a) (hS : S w) {K : Act → World → Prop} (h : K (a.put oi.dst v) w) : wpOpIn Fence.wide n P ops Q i K a w := by
  unfold wpOpIn
  rw [hi]
  rcases hy with ⟨hw, hv⟩ | ⟨hw, rfl⟩
  · simp only [hw, if_true, Oper.wpIn, semWide, hv w hS]
    exact ⟨fun _ _ => trivial, h⟩
  · simp only [hw, Bool.false_eq_true, if_false]
    exact ⟨fun _ _ => trivial, h⟩
end
end Go.Proofs.YtndkfjoaiinjoaaGreat.W
/- A region that draws its order and ends with a store: what only reads is taken first. -/
namespace Go.Proofs.YtndkfjoaiinjoaaGreat.W
open Go.ChangeShapes Go.WideShapes Go.RowKit Go.Shelf
set_option linter.unusedVariables false
section
variable {n : Nat} {P : Program} {ops : Array Oper} {Q : Exit → Act → World → Prop} {md : Region.Mode} {S : World → Prop} {z : Nat}
/-- every order, at the wide fence; S holds behind each operation but z -/
def anyL (n : Nat) (P : Program) (md : Region.Mode) (ops : Array Oper) (Q : Exit → Act → World → Prop) (S : World → Prop) (z : Nat) : Nat → Array Bool → Act → World → Prop
  | 0, l, a, w => Region.ready md ops l = [] ∧ Q .normal a w
  | k + 1, l, a, w => (Region.ready md ops l = [] → Q .normal a w) ∧ ∀ i ∈ Region.ready md ops l, wpOpIn Fence.wide n P ops Q i (fun a' w' => (i = z ∨ S w') ∧ anyL n P md ops Q S z k (l.setIfInBounds i true) a' w') a w
theorem anyL_in : ∀ (k : Nat) (l : Array Bool) (a : Act) (w : World), anyL n P md ops Q S z k l a w → wpAnyIn Fence.wide n P md ops Q k l a w
  | 0, _, _, _, h => h
  | k + 1, _, _, _, h => ⟨h.1, fun i hi => wpOpIn_mono (fun a' w' h' => anyL_in k _ a' w' h'.2) (h.2 i hi)⟩
/-- does z wait for i? -/
def waitsFor (md : Region.Mode) (ops : Array Oper) (z i : Nat) : Bool := match ops[z]? with | some o => o.after.any (fun e => Region.binds md e && e.on == i) | none => true
theorem waits_no {i : Nat} {l : Array Bool} (h : waitsFor md ops z i = true) (hz : z ∈ Region.ready md ops l) (hi : i ∈ Region.ready md ops l) : False := by
  obtain ⟨_, o, ho, hall⟩ := mem_ready.1 hz
  unfold waitsFor at h
  rw [ho] at h
  simp only at h
  rw [Array.any_eq_true'] at h
  obtain ⟨x, hx, hb⟩ := h
  rw [Bool.and_eq_true] at hb
  have y1 := hall x hx hb.1
  have y0 := (mem_ready.1 hi).1
  have e : x.on = i := by simpa using hb.2
  rw [e] at y1
  rcases Nat.lt_or_ge i l.size with q | q
  · simp [q] at y0 y1; rw [y0] at y1; cases y1
  · simp [Array.getElem?_eq_none q] at y1
theorem anyL_first {i : Nat} {oi : Oper} {v : Value} (hi : ops[i]? = some oi) (hsel : ∀ (j : Nat) (o : Oper) cs b, ops[j]? = some o → o.op ≠ .select cs b) (hQ : ∀ c a w, Q (.panic c) (a.put oi.dst v) w → Q (.panic c) a w) (hwz : waitsFor md ops z i = true) (k : Nat) :
    ∀ (l : Array Bool) (a : Act) (w : World), (∀ j oj, ops[j]? = some oj → j ≠ i → l.getD j true = false → (∀ e ∈ oj.after, Region.binds md e = true → e.on ≠ i) → oi.apart ops oj = true) → i ∈ Region.ready md ops l → YieldsIf P ops S oi v a → S w → anyL n P md ops Q S z k (l.setIfInBounds i true) (a.put oi.dst v) w → anyL n P md ops Q S z (k + 1) l a w := by
  induction k with
  | zero =>
    intro l a w _ hr hy hS H
    refine ⟨fun h => absurd hr (by rw [h]; simp), fun j hj => ?_⟩
    by_cases e : j = i
    · subst e; exact anyS_now hi hy hS ⟨.inr hS, H⟩
    · exact absurd (ready_mono hj e) (by rw [H.1]; simp)
  | succ k ih =>
    intro l a w hfree hr hy hS H
    refine ⟨fun h => absurd hr (by rw [h]; simp), fun j hj => ?_⟩
    by_cases e : j = i
    · subst e; exact anyS_now hi hy hS ⟨.inr hS, H⟩
    · have hjz : j ≠ z := fun e2 => waits_no hwz (e2 ▸ hj) hr
      obtain ⟨hjun, oj, hoj, hall⟩ := mem_ready.1 hj
      have hno : ∀ e ∈ oj.after, Region.binds md e = true → e.on ≠ i := by
        intro x hx hb hxi
        have y1 := hall x hx hb
        have y0 := (mem_ready.1 hr).1
        rw [hxi] at y1
        rcases Nat.lt_or_ge i l.size with q | q
        · simp [q] at y0 y1; rw [y0] at y1; cases y1
        · simp [Array.getElem?_eq_none q] at y1
      refine wpOpIn_mono ?_ (opIn_swap hoj (hfree j oj hoj e hjun hno) (fun cs b => hsel i oi cs b hi) (fun cs b => hsel j oj cs b hoj) hQ hy (H.2 j (ready_mono hj e)))
      rintro a' w' ⟨y1, y2, y3⟩
      have y2' : S w' := y2.resolve_left hjz
      refine ⟨.inr y2', ih (l.setIfInBounds j true) a' w' ?_ (ready_mono hr (Ne.symm e)) y1 y2' ?_⟩
      · intro t ot ht hti hun hno'
        refine hfree t ot ht hti ?_ hno'
        by_cases q : j = t
        · subst q; exact hjun
        · rw [getD_set_ne true q] at hun; exact hun
      · rw [Array.setIfInBounds_comm _ _ e]; exact y3
theorem anyL_take {i : Nat} {oi : Oper} {v : Value} {k : Nat} {l : Array Bool} {a : Act} {w : World} (hi : ops[i]? = some oi) (hs : Region.noSelect ops = true) (hf : Region.free md ops l i = true) (hr : (Region.ready md ops l).contains i = true) (hwz : waitsFor md ops z i = true)
    (hQ : ∀ c a w, Q (.panic c) (a.put oi.dst v) w → Q (.panic c) a w) (hy : YieldsIf P ops S oi v a) (hS : S w) (h : anyL n P md ops Q S z k (l.setIfInBounds i true) (a.put oi.dst v) w) : anyL n P md ops Q S z (k + 1) l a w :=
  anyL_first hi (Region.noSelect_spec hs) hQ hwz k l a w (Region.free_spec hi hf) (by simpa using hr) hy hS h
theorem anyL_one {i : Nat} {o : Oper} {k : Nat} {l : Array Bool} {a : Act} {w : World} (hr : Region.ready md ops l = [i]) (ho : ops[i]? = some o) (hw : Region.wanted o (yielded ops a.tmps) = true) (h : ∀ K : Act → World → Prop, (∀ a' w', (i = z ∨ S w') → anyL n P md ops Q S z k (l.setIfInBounds i true) a' w' → K a' w') → o.wpIn Fence.wide n P a w K Q) : anyL n P md ops Q S z (k + 1) l a w := by
  refine ⟨fun h0 => absurd (hr.symm.trans h0) (by simp), fun j hj => ?_⟩
  rw [hr] at hj
  simp at hj
  subst hj
  unfold wpOpIn
  rw [ho]
  simp only [hw, if_true]
  exact h _ (fun a' w' h1 h2 => ⟨h1, h2⟩)
theorem anyL_done {l : Array Bool} {a : Act} {w : World} (hr : Region.ready md ops l = []) (h : Q .normal a w) : ∀ k, anyL n P md ops Q S z k l a w
  | 0 => ⟨hr, h⟩
  | _ + 1 => ⟨fun _ => h, by rw [hr]; simp⟩
theorem plain_anyL {id : Nat} {a : Act} {w : World} (hm : P.follows .mixedOrders = true) (h : anyL 9 P .any ops Q S z ops.size (Array.replicate ops.size false) a w.drew) : (Code.region id ops true).wp P Q a w :=
  (wpIn_wide (n := 9)).1 (wpIn_region_any hm (anyL_in _ _ _ _ h))
/-- an append whose run is known, in such a region -/
theorem opIn_plain {o : Oper} {a : Act} {w : World} {K : Act → World → Prop} (hd : ∀ c, o.op ≠ .defer c) (h : o.wp P a w K Q) : o.wpIn Fence.wide n P a w K Q := by
  refine ⟨fun _ _ => trivial, ?_⟩
  rw [semWide]
  unfold Oper.wp at h
  generalize (execOp a.eval o).run P w = r at *
  cases r with
  | ok x w' =>
    cases x with
    | value v => exact h
    | skip => exact h
    | defer d => exact h
    | enter f args => exact ⟨fun e => by simp [Fence.wide] at e, callsIn_wide.2 h⟩
    | row row args =>
      refine ⟨fun e => by simp [Fence.wide] at e, ?_⟩
      intro c cs _
      obtain ⟨v, w'', hr, hs⟩ := h c cs
      exact ⟨v, w'', hr, stepsIn_wide.2 hs⟩
    | round l f tmps assign body => exact h.elim
    | _ => exact h.elim
  | halt x w' => cases x <;> first | exact h | exact h.elim
end
end Go.Proofs.YtndkfjoaiinjoaaGreat.W
