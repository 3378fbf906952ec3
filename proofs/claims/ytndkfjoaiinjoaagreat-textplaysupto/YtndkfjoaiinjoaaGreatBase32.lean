import Derived.Test.YtndkfjoaiinjoaaGreatBase31
import Derived.BigQuiet
import Derived.Test.YtndkfjoaiinjoaaGreatBase24
/- The reference's heap: Put. -/
namespace Go.Proofs.YtndkfjoaiinjoaaGreat.W
open Go.ChangeShapes Go.WideShapes Go.RowKit Go.Shelf
set_option linter.unusedVariables false
set_option linter.unusedSimpArgs false
/-- a world behind which old blocks are as they were -/
structure TBW (w : World) where
  w' : World
  h : Below w.heap.size w w'
theorem tbw_region {id : Nat} {Q : Exit → Act → World → Prop} {a : Act} {w : World} {l : List Oper} (hm : Tryz.prog.follows .mixedOrders = true) (hB : Region.lexB .any l.toArray = true)
    (h : wpQuiet Tryz.prog l.toArray (fun w' => ∃ p : TBW w, w' = p.w') (fun a' => ∀ w', (∃ p : TBW w, w' = p.w') → Q .normal a' w') l a) : (Code.region id l.toArray true).wp Tryz.prog Q a w :=
  wp_region_quiet (C := fun w' => ∃ p : TBW w, w' = p.w') hm hB ⟨⟨w.drew, (Below.refl _ w).drew⟩, rfl⟩ (by simpa using h)
theorem TBW.calls {P : Program} {f : FuncId} {args : Array Value} {w : World} {p : TBW w} {v : Value} (h : Calls P f args p.w' fun e w' => e = .returned v ∧ Below p.w'.heap.size p.w' w') : Calls P f args p.w' fun e w'' => e = .returned v ∧ ∃ p' : TBW w, w'' = p'.w' :=
  h.mono fun _ w'' ⟨he, hB⟩ => ⟨he, ⟨w'', p.h.trans (hB.mono p.h.size)⟩, rfl⟩
theorem TBW.cell {w : World} {a : Addr} {v : Value} (h : w.cell? a = some v) (p : TBW w) : p.w'.cell? a = some v := below_cell p.h h
theorem wl_a (n : Nat) (h : n < 100000) : IntKind.i64.wrap (((n + 1 : Nat) : Int) - 1) = (n : Int) := by rw [IntKind.wrap_i64]; omega
theorem wl_b (n : Nat) (h : n < 100000) : wrap64 (n : Int) = (n : Int) := by unfold wrap64; omega
/-- the way through Put's loop -/
def PLp (W : World) (rb : Nat) (lv : Value) (room : Nat) (L : List Rc) (ks : List Int) (mb : Nat) (mm : List Value) (bx : Array Value) (j : Nat) (wr : World) : Prop :=
  Rh wr rb lv room (keepK L ks j) ∧ wr.ownsRow 0 4 1 (.slice (some ⟨mb, 0, none⟩) L.length L.length) L.length mm ∧ wr.heap[W.heap.size]? = some (.cells bx 105 (0, 0)) ∧ Upd (fun k => k = rb ∨ lv.ownBlock = some k) W wr
theorem PLp.below {W wr w4 : World} {rb room mb j : Nat} {lv : Value} {L : List Rc} {ks : List Int} {mm : List Value} {bx : Array Value} (h : PLp W rb lv room L ks mb mm bx j wr) (hB : Below wr.heap.size wr w4) : PLp W rb lv room L ks mb mm bx j w4 :=
  ⟨h.1.below hB, owns_on h.2.1 (fun k e => hB.block k (h.2.1.lt k e).2), (hB.block _ (Array.getElem?_eq_some_iff.1 h.2.2.1).1).trans h.2.2.1, h.2.2.2.trans' (Upd.of_below hB)⟩
theorem PLp.keep {W wr : World} {rb room mb j : Nat} {lv : Value} {L : List Rc} {ks : List Int} {mm : List Value} {bx : Array Value} (h : PLp W rb lv room L ks mb mm bx j wr) (hk : (j : Int) ∈ ks) : PLp W rb lv room L ks mb mm bx (j + 1) wr := by
  unfold PLp
  rw [show keepK L ks (j + 1) = keepK L ks j by conv => lhs; unfold keepK; rw [if_pos hk]]
  exact h
theorem PLp.drop {W wr : World} {rb room mb j g cap : Nat} {L : List Rc} {ks : List Int} {mm : List Value} {bx : Array Value} (h : PLp W rb (.slice (some ⟨g, 0, none⟩) L.length cap) room L ks mb mm bx j wr) (hj : j < L.length) (hk : ¬ (j : Int) ∈ ks) (hg : g < W.heap.size) (hm : W.heap.size < mb) : PLp W rb (.slice (some ⟨g, 0, none⟩) L.length cap) room L ks mb mm bx (j + 1) (((((((((wr.setCell ⟨g, j * 9, none⟩ (.int .i64 0)).setCell ⟨g, j * 9 + 1, none⟩ (.bool false)).setCell ⟨g, j * 9 + 2, none⟩ (.int .i64 0)).setCell ⟨g, j * 9 + 3, none⟩ (.slice none 0 0)).setCell ⟨g, j * 9 + 4, none⟩ (.slice none 0 0)).setCell ⟨g, j * 9 + 5, none⟩ (.int .i64 0)).setCell ⟨g, j * 9 + 6, none⟩ (.int .i64 0)).setCell ⟨g, j * 9 + 7, none⟩ (.int .i64 0)).setCell ⟨g, j * 9 + 8, none⟩ (.bool false)) := by
  obtain ⟨z1, z2⟩ := h.1.zero (k := j) (by rw [keepK_len]; exact hj)
  unfold PLp
  rw [show keepK L ks (j + 1) = (keepK L ks j).set j .gone by conv => lhs; unfold keepK; rw [if_neg hk]]
  refine ⟨z1, owns_on h.2.1 (fun k e => z2.block k (h.2.1.lt k e).2 (fun c => ?_)), (z2.block _ (Array.getElem?_eq_some_iff.1 h.2.2.1).1 (fun c => ?_)).trans h.2.2.1, h.2.2.2.trans' (z2.mono (fun x e => .inr (by rw [e]; rfl)))⟩
  · have e' : mb = k := by simpa [Value.ownBlock] using e
    omega
  · omega
set_option maxRecDepth 100000 in
set_option maxHeartbeats 4000000 in
theorem put7_c {W : World} {rb room : Nat} {lv : Value} {L : List Rc} (h : Rh W rb lv room L) (hl : L.length < 100000) (hL : ∀ c ∈ L, c.ch ≤ 100000000) (hroom : room ≤ 1000000000000) (vr : Value) (vs : List Tv) (hr : W.ownsRow 0 95 5 vr vs.length (flatT vs)) (hin : ∀ v ∈ vs, v.cell < 0 ∨ ∃ k : Nat, v.cell = k ∧ k < L.length) (hn : vs.length ≤ 3000000) (c : Rc) (hc : c.ch ≤ 100000000) (hheld : c.held = true) :
    Calls Tryz.prog 78 #[.pointer (some ⟨rb, 0, none⟩), .agg #[.int .i64 c.kd, .bool false, .int .i64 (c.ch : Nat), .slice none 0 0, .slice none 0 0, .int .i64 0, .int .i64 0, .int .i64 0, .bool false], vr] W (PPost W rb lv room L (vs.map Tv.cell) c) := by
  obtain ⟨orr, capr, rfl⟩ := slice_of hr
  obtain ⟨m, hLm⟩ : ∃ m, L.length = m := ⟨_, rfl⟩
  obtain ⟨ks, hks⟩ : ∃ ks, vs.map Tv.cell = ks := ⟨_, rfl⟩
  obtain ⟨nd, hnd⟩ : ∃ nd, c.need = nd := ⟨_, rfl⟩
  have hndle : nd ≤ 12500002 := by rw [← hnd]; exact c.need_le hc
  have cn0 : ∀ w, Calls Tryz.prog 109 #[.agg #[.int .i64 c.kd, .bool false, .int .i64 (c.ch : Nat), .slice none 0 0, .slice none 0 0, .int .i64 0, .int .i64 0, .int .i64 0, .bool false]] w fun e w' => e = .returned (.int .i64 (nd : Nat)) ∧ Below w.heap.size w w' := by rw [← hnd]; exact need7_r c hc false
  have hcells := c.cells_eq
  rw [hheld] at hcells
  obtain ⟨kd, hkd⟩ : ∃ kd, c.kd = kd := ⟨_, rfl⟩
  obtain ⟨ch, hch⟩ : ∃ ch, c.ch = ch := ⟨_, rfl⟩
  rw [hkd, hch] at hcells cn0 ⊢
  have hB0 : Below W.heap.size W (W.alloc (.cells #[.int .i64 kd, .bool false, .int .i64 (ch : Nat), .slice none 0 0, .slice none 0 0, .int .i64 0, .int .i64 0, .int .i64 0, .bool false] 105)) := (Below.refl _ W).alloc (Nat.le_refl _) _
  have hN0 := World.alloc_heap_new W (.cells #[.int .i64 kd, .bool false, .int .i64 (ch : Nat), .slice none 0 0, .slice none 0 0, .int .i64 0, .int .i64 0, .int .i64 0, .bool false] 105)
  obtain ⟨W1, hW1⟩ : ∃ W1, W.alloc (.cells #[.int .i64 kd, .bool false, .int .i64 (ch : Nat), .slice none 0 0, .slice none 0 0, .int .i64 0, .int .i64 0, .int .i64 0, .bool false] 105) = W1 := ⟨_, rfl⟩
  have hz1 : W1.heap.size = W.heap.size + 1 := by rw [← hW1]; simp
  rw [hW1] at hB0 hN0
  have hB2 : Below W1.heap.size W1 (W1.alloc (.cells #[] 95)) := (Below.refl _ W1).alloc (Nat.le_refl _) _
  have hB12 := hB0.trans (hB2.mono hB0.size)
  have h0 := World.ownsRow_lit (base := 0) (e := 95) (size := 5) W1 #[] 0 (Nat.zero_le _) (by simp) (by simp)
  obtain ⟨wv, w2, hrun, hwv, hgw, hwk⟩ := app_vals (W1.alloc (.cells #[] 95)) 57 (.slice (some ⟨W1.heap.size, 0, none⟩) 0 0) [] (by simpa [flatT] using h0) (.slice orr vs.length capr) vs (owns_on hr (fun k e => hB12.block k (hr.lt k e).2)) (by simp; omega)
  rw [List.nil_append] at hwv
  have hw2 : Below W.heap.size W w2 := hB12.grown hgw hB12.size (fun k e => by cases e; exact hB0.size)
  have hBw : Below W1.heap.size W1 w2 := hB2.grown hgw hB2.size (fun k e => by cases e; exact Nat.le_refl _)
  have hap := app_none w2 57 _ _ _ hwv
  have b02 : w2.heap[W.heap.size]? = some (.cells #[.int .i64 kd, .bool false, .int .i64 (ch : Nat), .slice none 0 0, .slice none 0 0, .int .i64 0, .int .i64 0, .int .i64 0, .bool false] 105 (0, 0)) := (hBw.block _ (by omega)).trans hN0
  have e4 : w2.cell? ⟨W.heap.size, 4, none⟩ = some (.slice none 0 0) := cell_of_row w2 _ 4 _ _ _ b02
  have e1 : w2.cell? ⟨W.heap.size, 1, none⟩ = some (.bool false) := cell_of_row w2 _ 1 _ _ _ b02
  have cr := reached_c (h.below hw2) wv vs hwv hin hn
  have hst : ∀ mb w3, w2.heap.size ≤ mb → Below w2.heap.size w2 w3 → w3.ownsRow 0 4 1 (.slice (some ⟨mb, 0, none⟩) L.length L.length) L.length ((metL L.length vs).map .bool) → PLp W rb lv room L ks mb ((metL L.length vs).map .bool) #[.int .i64 kd, .bool false, .int .i64 (ch : Nat), .slice none 0 0, .slice none 0 0, .int .i64 0, .int .i64 0, .int .i64 0, .bool false] 0 w3 ∧ W.heap.size < mb := by
    intro mb w3 hmb hB3 hm
    have hB := hw2.trans (hB3.mono hw2.size)
    have hz := hBw.size
    exact ⟨⟨h.below hB, hm, (hB3.block _ (by omega)).trans b02, Upd.of_below hB⟩, by omega⟩
  have hrl := h.len
  have HH := hid h
  have HS := hid hst
  have HC := hid (And.intro hL (And.intro hin hcells))
  obtain ⟨ow, capw, hwe⟩ := slice_of hwv
  subst hwe
  rw [hLm] at cr hl hrl HS
  unfold PPost
  rw [hks, hnd, hLm]
  have HM := hid hLm
  have HK := hid hks
  have HN := hid hnd
  clear h hL hin hwv hwk hgw h0 hB0 hN0 hB2 hB12 hr hst b02 hw2 hBw hcells hz1
  go_enter Tryz.func78, Tryz.ntmps78
  go_upto_region 5 with (at_builtin; first | (refine Lib.wpList_append_run _ rfl (.tmp 12) (.tmp 13) 57 57 rfl _ _ (by simp [Act.eval]) (by simp [Act.eval]) _ _ hrun ?_) | (refine Lib.wpList_append_run _ rfl (.tmp 15) (.tmp 17) 57 57 rfl _ _ (by simp [Act.eval]) (by simp [Act.eval]) _ _ hap ?_))
  clear hrun hap e4 e1 hW1
  go_wp2_with (go_at_call 108; (with_reducible refine cr.mono ?_); rintro e w3 ⟨mb, rfl, hm, hmb, hB3⟩; (have HP := hid (HS.out mb w3 hmb hB3 hm)); clear cr hm hmb hB3)
  clear HS
  generalize hb0 : W.heap.size = b0 at *

  go_loopw [10, 11] (fun nn ii wr => ∃ j : Nat, j ≤ m ∧ nn = .int .i64 (sumK L ks j : Nat) ∧ ii = .int .i64 j ∧ PLp W rb lv room L ks mb ((metL m vs).map .bool) #[.int .i64 kd, .bool false, .int .i64 (ch : Nat), .slice none 0 0, .slice none 0 0, .int .i64 0, .int .i64 0, .int .i64 0, .bool false] j wr) (fun _ ii _ => m - (intOf ii).toNat)
  case atStart => exact ⟨0, Nat.zero_le _, rfl, rfl, HP.out.1⟩
  case round =>
    obtain ⟨j, hj, rfl, rfl, hp⟩ := hrel
    have hHm := HM.out
    subst hHm
    have hgm := HP.out.2
    have hb0' := hb0
    subst hb0'
    by_cases hjm : j < L.length
    · obtain ⟨r1, r2, -, -⟩ := id hp
      obtain ⟨x, hx⟩ : ∃ x, L[j]? = some x := ⟨_, List.getElem?_eq_getElem hjm⟩
      have hxm := HC.out.1 x (List.mem_of_getElem? hx)
      have hxk : (keepK L ks j)[j]? = some x := by rw [keepK_get, if_neg (fun e => by have := e.1; omega)]; exact hx
      obtain ⟨g, capg, hve, _⟩ := own_slice r1.row (by rw [keepK_len]; omega)
      rw [keepK_len] at hve
      subst hve
      have hgl := HH.out.lt g (.inr rfl)
      have cm : wr.cell? ⟨mb, j, none⟩ = some (.bool (decide ((j : Int) ∈ ks))) := by
        rw [(own_cell9 r2 j (by omega)).1, List.getElem?_map, metL_get _ vs j hjm, HK.out]
        rfl
      have d1 : wr.cell? ⟨rb, 1, none⟩ = some (.slice (some ⟨g, 0, none⟩) L.length capg) := cell_of_row _ rb 1 _ _ _ r1.top
      have kk := fun i (hi : i < 9) => r1.cell hxk hi
      rw [x.cells_eq] at kk
      have k0 : wr.cell? ⟨g, j * 9, none⟩ = some (.int .i64 x.kd) := kk 0 (by omega)
      have k1 : wr.cell? ⟨g, j * 9 + 1, none⟩ = some (.bool false) := kk 1 (by omega)
      have k2 : wr.cell? ⟨g, j * 9 + 2, none⟩ = some (.int .i64 (x.ch : Nat)) := kk 2 (by omega)
      have k3 : wr.cell? ⟨g, j * 9 + 3, none⟩ = some (.slice none 0 0) := kk 3 (by omega)
      have k4 : wr.cell? ⟨g, j * 9 + 4, none⟩ = some (.slice none 0 0) := kk 4 (by omega)
      have k5 : wr.cell? ⟨g, j * 9 + 5, none⟩ = some (.int .i64 0) := kk 5 (by omega)
      have k6 : wr.cell? ⟨g, j * 9 + 6, none⟩ = some (.int .i64 0) := kk 6 (by omega)
      have k7 : wr.cell? ⟨g, j * 9 + 7, none⟩ = some (.int .i64 0) := kk 7 (by omega)
      have k8 : wr.cell? ⟨g, j * 9 + 8, none⟩ = some (.bool x.held) := kk 8 (by omega)
      have o0 : (0 : Int) ≤ j := Int.natCast_nonneg _
      have o1 : (j : Int) < L.length := by omega
      have wk : IntKind.i64.wrap ((j : Int) + 1) = (j : Int) + 1 := by rw [IntKind.wrap_i64]; omega
      have HMe := hid (show L.length - ((j : Int) + 1).toNat < L.length - ((j : Int)).toNat by omega)
      have HJ := hid (show j + 1 ≤ L.length by omega)
      have hsl := sumK_le L ks HC.out.1 j
      have hxn := x.need_le hxm
      by_cases hmem : (j : Int) ∈ ks
      · rw [decide_eq_true hmem] at cm
        have hs : sumK L ks (j + 1) = sumK L ks j + x.need := by
          conv => lhs; unfold sumK
          rw [if_pos hmem, hx]; rfl
        have ws : IntKind.i64.wrap ((sumK L ks j : Nat) + (x.need : Nat) : Int) = ((sumK L ks (j + 1) : Nat) : Int) := by
          rw [hs, IntKind.wrap_i64]
          have : j * 12500002 ≤ 100000 * 12500002 := Nat.mul_le_mul_right _ (by omega)
          omega
        have cn := need7_r x hxm x.held
        have HP1 := hid (hp.keep hmem)
        generalize x.kd = xk at *
        generalize x.ch = xc at *
        generalize x.held = xh at *
        generalize x.need = xn at *
        generalize sumK L ks j = sj at *
        generalize hS2 : sumK L ks (j + 1) = sk at *
        clear hs hxn hsl kk hxk hx hp r1 r2 hmem hgl hxm hgm HP HH HC HK hks HN hnd hj hjm hl hrl hroom
        go_upto_region 9 with (go_at_call 109; (with_reducible refine (cn _).mono ?_); rintro e w4 ⟨rfl, hB4⟩; (have HP2 := hid (HP1.out.below hB4)); clear cn HP1 hB4 k0 k1 k2 k3 k4 k5 k6 k7 k8 cm d1)
        go_wp2
        go_roundw
        case rel => exact ⟨j + 1, HJ.out, by rw [hS2], rfl, HP2.out⟩
        case measure => exact HMe.out
      · rw [decide_eq_false hmem] at cm
        have hs : sumK L ks (j + 1) = sumK L ks j := by
          conv => lhs; unfold sumK
          rw [if_neg hmem]; rfl
        have hrw := r1.row
        rw [keepK_len] at hrw
        have ff : ∀ i, i < 9 → wr.frozen? ⟨g, j * 9 + i, none⟩ = false := fun i hi => (own_cell9 hrw (j * 9 + i) (by omega)).2
        clear hrw
        have f0 : wr.frozen? ⟨g, j * 9, none⟩ = false := ff 0 (by omega)
        have f1 := ff 1 (by omega)
        have f2 := ff 2 (by omega)
        have f3 := ff 3 (by omega)
        have f4 := ff 4 (by omega)
        have f5 := ff 5 (by omega)
        have f6 := ff 6 (by omega)
        have f7 := ff 7 (by omega)
        have f8 := ff 8 (by omega)
        have HP1 := hid (hp.drop hjm hmem hgl hgm)
        rw [← hs]
        generalize x.kd = xk at *
        generalize x.ch = xc at *
        generalize x.held = xh at *
        clear hxn hsl kk hxk hx hp r1 r2 hmem hgl hxm hgm HP HH HC HK hks HN hnd hj hjm hl hrl hroom ff hs
        go_wp2
        go_roundw
        case rel => exact ⟨j + 1, HJ.out, rfl, rfl, HP1.out⟩
        case measure => exact HMe.out
    · have e1 : j = L.length := by omega
      subst e1
      have hk1 : ¬ (L.length : Int) < L.length := by omega
      have hsl := sumK_le L ks HC.out.1 L.length
      have hsl2 : L.length * 12500002 ≤ 100000 * 12500002 := Nat.mul_le_mul_right _ (by omega)
      obtain ⟨r1, r2, r3, r4⟩ := id hp
      have g0 : wr.cell? ⟨rb, 0, none⟩ = some (.int .i64 (room : Nat)) := cell_of_row _ rb 0 _ _ _ r1.top
      have h0 : wr.cell? ⟨W.heap.size, 0, none⟩ = some (.int .i64 kd) := cell_of_row _ _ 0 _ _ _ r3
      have h1 : wr.cell? ⟨W.heap.size, 1, none⟩ = some (.bool false) := cell_of_row _ _ 1 _ _ _ r3
      have h2 : wr.cell? ⟨W.heap.size, 2, none⟩ = some (.int .i64 (ch : Nat)) := cell_of_row _ _ 2 _ _ _ r3
      have h3 : wr.cell? ⟨W.heap.size, 3, none⟩ = some (.slice none 0 0) := cell_of_row _ _ 3 _ _ _ r3
      have h4 : wr.cell? ⟨W.heap.size, 4, none⟩ = some (.slice none 0 0) := cell_of_row _ _ 4 _ _ _ r3
      have h5 : wr.cell? ⟨W.heap.size, 5, none⟩ = some (.int .i64 0) := cell_of_row _ _ 5 _ _ _ r3
      have h6 : wr.cell? ⟨W.heap.size, 6, none⟩ = some (.int .i64 0) := cell_of_row _ _ 6 _ _ _ r3
      have h7 : wr.cell? ⟨W.heap.size, 7, none⟩ = some (.int .i64 0) := cell_of_row _ _ 7 _ _ _ r3
      have h8 : wr.cell? ⟨W.heap.size, 8, none⟩ = some (.bool false) := cell_of_row _ _ 8 _ _ _ r3
      have HQ := hid hp
      clear hp r1 r2 r3 r4
      have wn : IntKind.i64.wrap ((room : Int) - nd) = (room : Int) - nd := by rw [IntKind.wrap_i64]; omega
      have wn2 : wrap64 ((room : Int) - nd) = (room : Int) - nd := by unfold wrap64; omega
      generalize hsu : sumK L ks L.length = su at *
      have HE := hid (And.intro hsl hsl2)
      clear hsl hsl2
      go_upto_region 13 with fail
      have inst : Nonempty (TBW wr) := ⟨⟨_, Below.refl _ _⟩⟩
      have c0 := TBW.cell g0
      have d0 := TBW.cell h0
      have d1 := TBW.cell h1
      have d2 := TBW.cell h2
      have d3 := TBW.cell h3
      have d4 := TBW.cell h4
      have d5 := TBW.cell h5
      have d6 := TBW.cell h6
      have d7 := TBW.cell h7
      have d8 := TBW.cell h8
      clear g0 h0 h1 h2 h3 h4 h5 h6 h7 h8
      by_cases q1 : (nd : Int) > room
      · have q1' : decide ((nd : Int) > room) = true := decide_eq_true q1
        have HF := hid (show room < su + nd by omega)
        refine tbw_region (by kernel_rfl) (by kernel_rfl) ?_
        repeat (go_big_quiet_step ((go_at_call 109; exact TBW.calls (cn0 _))))
        refine wpQuiet_nil ?_
        intro _ hw'
        obtain ⟨pw, hw''⟩ := hw'
        subst hw''
        clear c0 d0 d1 d2 d3 d4 d5 d6 d7 d8
        go_wp2
        go_ret2
        obtain ⟨r1, r2, r3, r4⟩ := HQ.out.below pw.h
        exact ⟨r4, _, fun k e => .inl e, .inr ⟨HF.out, rfl, r1⟩⟩
      · have q1' : decide ((nd : Int) > room) = false := decide_eq_false q1
        by_cases q2 : (su : Int) > (room : Int) - nd
        · have q2' : decide ((su : Int) > (room : Int) - nd) = true := decide_eq_true q2
          have HF := hid (show room < su + nd by omega)
          refine tbw_region (by kernel_rfl) (by kernel_rfl) ?_
          repeat (go_big_quiet_step ((go_at_call 109; exact TBW.calls (cn0 _))))
          refine wpQuiet_nil ?_
          intro _ hw'
          obtain ⟨pw, hw''⟩ := hw'
          subst hw''
          clear c0 d0 d1 d2 d3 d4 d5 d6 d7 d8
          go_wp2
          go_ret2
          obtain ⟨r1, r2, r3, r4⟩ := HQ.out.below pw.h
          exact ⟨r4, _, fun k e => .inl e, .inr ⟨HF.out, rfl, r1⟩⟩
        · have q2' : decide ((su : Int) > (room : Int) - nd) = false := decide_eq_false q2
          have HF := hid (show su + nd ≤ room by omega)
          refine tbw_region (by kernel_rfl) (by kernel_rfl) ?_
          repeat (go_big_quiet_step ((go_at_call 109; exact TBW.calls (cn0 _))))
          refine wpQuiet_nil ?_
          intro _ hw'
          obtain ⟨pw, hw''⟩ := hw'
          subst hw''
          clear c0 d0 d1 d2 d3 d4 d5 d6 d7 d8 cn0
          have hq2 := HQ.out.below pw.h
          have t8 : pw.w'.cell? ⟨W.heap.size, 8, none⟩ = some (.bool false) := cell_of_row _ _ 8 _ _ _ hq2.2.2.1
          have t9 : pw.w'.frozen? ⟨W.heap.size, 8, none⟩ = false := by simp only [World.frozen?, hq2.2.2.1]; simp
          have B8 : (pw.w'.setCell ⟨W.heap.size, 8, none⟩ (.bool true)).heap[W.heap.size]? = some (.cells #[.int .i64 kd, .bool false, .int .i64 (ch : Nat), .slice none 0 0, .slice none 0 0, .int .i64 0, .int .i64 0, .int .i64 0, .bool true] 105 (0, 0)) := by
            have := heap_set (c := [.int .i64 kd, .bool false, .int .i64 (ch : Nat), .slice none 0 0, .slice none 0 0, .int .i64 0, .int .i64 0, .int .i64 0, .bool false]) hq2.2.2.1 8 (.bool true)
            simpa using this
          have hlt := fun k hk => HH.out.lt k hk
          have R8 : Rh (pw.w'.setCell ⟨W.heap.size, 8, none⟩ (.bool true)) rb lv room (keepK L ks L.length) := hq2.1.on (fun k hk => Below.heap_setCell _ _ _ _ (by have := hlt k hk; show k ≠ W.heap.size; omega))
          have U8 : Upd (fun k => k = rb ∨ lv.ownBlock = some k) W (pw.w'.setCell ⟨W.heap.size, 8, none⟩ (.bool true)) := hq2.2.2.2.setCell (p := ⟨W.heap.size, 8, none⟩) (.inr ⟨Nat.le_refl _, (Array.getElem?_eq_some_iff.1 hq2.2.2.1).1⟩) _
          clear hq2
          go_upto_region 16 with fail
          generalize pw.w'.setCell ⟨W.heap.size, 8, none⟩ (.bool true) = Wa at *
          clear t8 t9
          obtain ⟨v', w', hrun, hR', hU', hk', hbk, ov, cv, hv'⟩ := (R8.on (W' := Wa.drew) (fun _ _ => rfl)).snoc (by rw [keepK_len]; exact hl) c 54
          obtain ⟨ol, capl, hlv⟩ := slice_of R8.row
          rw [keepK_len] at hlv hv'
          subst hlv
          subst hv'
          rw [HC.out.2.2] at hrun
          have hrun' : (Builtin.append_ #[54, 54] 54 #[.slice ol L.length capl, .slice (some ⟨Wa.heap.size, 0, none⟩) 1 1]).run Tryz.prog (Wa.alloc (.cells #[.int .i64 kd, .bool false, .int .i64 (ch : Nat), .slice none 0 0, .slice none 0 0, .int .i64 0, .int .i64 0, .int .i64 0, .bool true] 105)).drew = .ok (.slice ov (L.length + 1) cv) w' := hrun
          have hrbl := hlt rb (.inl rfl)
          have hb0l : W.heap.size < Wa.heap.size := (Array.getElem?_eq_some_iff.1 B8).1
          have HA : ∀ o, (Wa.alloc o).drew.heap[rb]? = some (.cells #[.int .i64 (room : Nat), .slice ol L.length capl] 56 (0, 0)) ∧ (Wa.alloc o).drew.heap[W.heap.size]? = some (.cells #[.int .i64 kd, .bool false, .int .i64 (ch : Nat), .slice none 0 0, .slice none 0 0, .int .i64 0, .int .i64 0, .int .i64 0, .bool true] 105 (0, 0)) := fun o => ⟨(Below.heap_alloc Wa o rb (by omega)).trans R8.top, (Below.heap_alloc Wa o _ hb0l).trans B8⟩
          have HB : w'.heap[rb]? = some (.cells #[.int .i64 (room : Nat), .slice ol L.length capl] 56 (0, 0)) ∧ w'.heap[W.heap.size]? = some (.cells #[.int .i64 kd, .bool false, .int .i64 (ch : Nat), .slice none 0 0, .slice none 0 0, .int .i64 0, .int .i64 0, .int .i64 0, .bool true] 105 (0, 0)) := ⟨(hbk rb (by show _ < Wa.heap.size; omega) R8.own).trans R8.top, (hbk _ hb0l (fun e => by have := hlt _ (.inr e); omega)).trans B8⟩
          have HS0 : Wa.drew.heap[rb]? = some (.cells #[.int .i64 (room : Nat), .slice ol L.length capl] 56 (0, 0)) ∧ Wa.drew.heap[W.heap.size]? = some (.cells #[.int .i64 kd, .bool false, .int .i64 (ch : Nat), .slice none 0 0, .slice none 0 0, .int .i64 0, .int .i64 0, .int .i64 0, .bool true] 105 (0, 0)) := ⟨R8.top, B8⟩
          have HAll := hid (And.intro HA HB)
          have hwl : Wa.heap.size ≥ W.heap.size := by omega
          have FIN := hid (And.intro hR' (And.intro (U8.drew.trans' hU') (show ∀ k, (Value.slice ov (L.length + 1) cv).ownBlock = some k → (Value.slice ol L.length capl).ownBlock = some k ∨ W.heap.size ≤ k from fun k e => (hk' k e).imp id (fun h => Nat.le_trans hwl h))))
          have HS1 := hid HS0
          have HSU := hid hsu
          clear hsu
          have wl2 := wl_b L.length hl
          have wl := wl_a L.length hl
          clear HA HB HS0 hR' hU' hk' hbk hrun U8 R8 B8 hlt hrbl hb0l hwl HQ HH HC HE HP HK HM hks hnd HN hc hch hkd hndle hroom hl hrl hn hj hjm q1 q2 q1' q2' wn wn2 hk1 hgm
          generalize hb0 : W.heap.size = b0 at *
          refine wp_region_noPanic ?_
          refine plain_anyL (z := 10) (S := fun w' => w'.heap[rb]? = some (.cells #[.int .i64 (room : Nat), .slice ol L.length capl] 56 (0, 0)) ∧ w'.heap[b0]? = some (.cells #[.int .i64 kd, .bool false, .int .i64 (ch : Nat), .slice none 0 0, .slice none 0 0, .int .i64 0, .int .i64 0, .int .i64 0, .bool true] 105 (0, 0))) (by kernel_rfl) ?_
          have hS : Wa.drew.heap[rb]? = some (.cells #[.int .i64 (room : Nat), .slice ol L.length capl] 56 (0, 0)) ∧ Wa.drew.heap[b0]? = some (.cells #[.int .i64 kd, .bool false, .int .i64 (ch : Nat), .slice none 0 0, .slice none 0 0, .int .i64 0, .int .i64 0, .int .i64 0, .bool true] 105 (0, 0)) := HS1.out
          (refine anyL_take (i := 0) (v := ?_) rfl (by kernel_rfl) (by kernel_rfl) (by kernel_rfl) (by kernel_rfl) (fun _ _ _ h => h) (Or.inl ⟨by rfl, ?_⟩) hS ?_); rotate_left; (focus (intro w' hSw; obtain ⟨q1, q2⟩ := hSw; (have e1 := cell_of_row w' rb 1 _ _ _ q1); (have ec := fun j => cell_of_row w' b0 j _ _ _ q2); go_simp; (try with_reducible rfl))); (try simp only [Act.put, List.getElem_toArray, List.getElem_cons_zero, List.getElem_cons_succ, List.setIfInBounds_toArray, List.set_cons_zero, List.set_cons_succ])
          (refine anyL_take (i := 1) (v := ?_) rfl (by kernel_rfl) (by kernel_rfl) (by kernel_rfl) (by kernel_rfl) (fun _ _ _ h => h) (Or.inl ⟨by rfl, ?_⟩) hS ?_); rotate_left; (focus (intro w' hSw; obtain ⟨q1, q2⟩ := hSw; (have e1 := cell_of_row w' rb 1 _ _ _ q1); (have ec := fun j => cell_of_row w' b0 j _ _ _ q2); go_simp; (try with_reducible rfl))); (try simp only [Act.put, List.getElem_toArray, List.getElem_cons_zero, List.getElem_cons_succ, List.setIfInBounds_toArray, List.set_cons_zero, List.set_cons_succ])
          (refine anyL_take (i := 2) (v := ?_) rfl (by kernel_rfl) (by kernel_rfl) (by kernel_rfl) (by kernel_rfl) (fun _ _ _ h => h) (Or.inl ⟨by rfl, ?_⟩) hS ?_); rotate_left; (focus (intro w' hSw; obtain ⟨q1, q2⟩ := hSw; (have e1 := cell_of_row w' rb 1 _ _ _ q1); (have ec := fun j => cell_of_row w' b0 j _ _ _ q2); go_simp; (try with_reducible rfl))); (try simp only [Act.put, List.getElem_toArray, List.getElem_cons_zero, List.getElem_cons_succ, List.setIfInBounds_toArray, List.set_cons_zero, List.set_cons_succ])
          (refine anyL_take (i := 3) (v := ?_) rfl (by kernel_rfl) (by kernel_rfl) (by kernel_rfl) (by kernel_rfl) (fun _ _ _ h => h) (Or.inl ⟨by rfl, ?_⟩) hS ?_); rotate_left; (focus (intro w' hSw; obtain ⟨q1, q2⟩ := hSw; (have e1 := cell_of_row w' rb 1 _ _ _ q1); (have ec := fun j => cell_of_row w' b0 j _ _ _ q2); go_simp; (try with_reducible rfl))); (try simp only [Act.put, List.getElem_toArray, List.getElem_cons_zero, List.getElem_cons_succ, List.setIfInBounds_toArray, List.set_cons_zero, List.set_cons_succ])
          (refine anyL_take (i := 4) (v := ?_) rfl (by kernel_rfl) (by kernel_rfl) (by kernel_rfl) (by kernel_rfl) (fun _ _ _ h => h) (Or.inl ⟨by rfl, ?_⟩) hS ?_); rotate_left; (focus (intro w' hSw; obtain ⟨q1, q2⟩ := hSw; (have e1 := cell_of_row w' rb 1 _ _ _ q1); (have ec := fun j => cell_of_row w' b0 j _ _ _ q2); go_simp; (try with_reducible rfl))); (try simp only [Act.put, List.getElem_toArray, List.getElem_cons_zero, List.getElem_cons_succ, List.setIfInBounds_toArray, List.set_cons_zero, List.set_cons_succ])
          (refine anyL_take (i := 5) (v := ?_) rfl (by kernel_rfl) (by kernel_rfl) (by kernel_rfl) (by kernel_rfl) (fun _ _ _ h => h) (Or.inl ⟨by rfl, ?_⟩) hS ?_); rotate_left; (focus (intro w' hSw; obtain ⟨q1, q2⟩ := hSw; (have e1 := cell_of_row w' rb 1 _ _ _ q1); (have ec := fun j => cell_of_row w' b0 j _ _ _ q2); go_simp; (try with_reducible rfl))); (try simp only [Act.put, List.getElem_toArray, List.getElem_cons_zero, List.getElem_cons_succ, List.setIfInBounds_toArray, List.set_cons_zero, List.set_cons_succ])
          refine anyL_one (i := 6) (by kernel_rfl) rfl rfl (fun K hK => ?_)
          go_simp
          refine hK _ _ (.inr (HAll.out.1 _)) ?_
          clear hK K hS
          (try simp only [Act.put, List.getElem_toArray, List.getElem_cons_zero, List.getElem_cons_succ, List.setIfInBounds_toArray, List.set_cons_zero, List.set_cons_succ])
          refine anyL_one (i := 7) (by kernel_rfl) rfl rfl (fun K hK => ?_)
          refine opIn_plain (fun c h => by cases h) ?_
          refine Lib.wp_append_run _ (.tmp 80) (.tmp 82) 54 54 rfl _ _ rfl rfl _ _ hrun' ?_
          refine hK _ _ (.inr HAll.out.2) ?_
          clear hK K hrun'
          (try simp only [Act.put, List.getElem_toArray, List.getElem_cons_zero, List.getElem_cons_succ, List.setIfInBounds_toArray, List.set_cons_zero, List.set_cons_succ])
          refine anyL_one (i := 8) (by kernel_rfl) rfl rfl (fun K hK => ?_)
          go_simp
          refine hK _ _ (.inr HAll.out.2) ?_
          clear hK K
          (try simp only [Act.put, List.getElem_toArray, List.getElem_cons_zero, List.getElem_cons_succ, List.setIfInBounds_toArray, List.set_cons_zero, List.set_cons_succ])
          refine anyL_one (i := 9) (by kernel_rfl) rfl rfl (fun K hK => ?_)
          go_simp
          refine hK _ _ (.inr HAll.out.2) ?_
          clear hK K
          (try simp only [Act.put, List.getElem_toArray, List.getElem_cons_zero, List.getElem_cons_succ, List.setIfInBounds_toArray, List.set_cons_zero, List.set_cons_succ])
          refine anyL_one (i := 10) (by kernel_rfl) rfl rfl (fun K hK => ?_)
          have x1 : w'.cell? ⟨rb, 1, none⟩ = some (.slice ol L.length capl) := cell_of_row w' rb 1 _ _ _ HAll.out.2.1
          have x2 : w'.frozen? ⟨rb, 1, none⟩ = false := by simp only [World.frozen?, HAll.out.2.1]; simp
          go_simp
          refine hK _ _ (.inl rfl) ?_
          clear hK K x1 x2
          (try simp only [Act.put, List.getElem_toArray, List.getElem_cons_zero, List.getElem_cons_succ, List.setIfInBounds_toArray, List.set_cons_zero, List.set_cons_succ])
          refine anyL_done (by kernel_rfl) ?_ _
          refine NoPanic.normal ?_
          have x3 : (w'.setCell ⟨rb, 1, none⟩ (.slice ov (L.length + 1) cv)).cell? ⟨rb, 1, none⟩ = some (.slice ov (L.length + 1) cv) := cell_of_row _ rb 1 _ _ _ FIN.out.1.top
          generalize w'.setCell ⟨rb, 1, none⟩ (.slice ov (L.length + 1) cv) = W9 at *
          clear HAll HS1
          go_wp2
          go_ret2
          exact ⟨FIN.out.2.1, _, FIN.out.2.2, .inl ⟨by rw [HSU.out]; exact HF.out, rfl, FIN.out.1⟩⟩
end Go.Proofs.YtndkfjoaiinjoaaGreat.W
/- The reference's heap: Whole, String. -/
namespace Go.Proofs.YtndkfjoaiinjoaaGreat.W
open Go.ChangeShapes Go.WideShapes Go.RowKit Go.Shelf
set_option linter.unusedVariables false
set_option linter.unusedSimpArgs false
theorem tvT : (Tryz.prog.underlying 95).map (fun d => match d with | .struct _ | .array _ _ => true | _ => false) = some true := by kernel_rfl
theorem tvSz : (Tryz.prog.info? 95).map (·.size) = some 5 := by kernel_rfl
theorem tv_ret2 {fn : Func} {p q : Tmp} (h : fn.results = #[.cell p 95, .tmp q]) (tmps : Array Value) (w : World) (gb : Nat) (v0 v1 v2 v3 v4 : Value) (fr : Nat × Nat) (hp : tmps.getD p undef = .pointer (some ⟨gb, 0, none⟩)) (hg : w.heap[gb]? = some (.cells #[v0, v1, v2, v3, v4] 95 fr)) : (results fn tmps).run Tryz.prog w = .ok (.tuple #[.agg #[v0, v1, v2, v3, v4], tmps.getD q undef]) w := by
  have ht := tvT
  rw [results_cell_tmp h, hp]
  cases hu : Tryz.prog.underlying 95 with
  | none => rw [hu] at ht; cases ht
  | some d =>
    rw [hu] at ht
    simp only [Option.map_some, Option.some.injEq] at ht
    have hl := run_loadVar_row (P := Tryz.prog) w gb 95 95 #[v0, v1, v2, v3, v4] fr d hg hu (by cases d <;> first | rfl | exact ht) (by rw [tvSz]; rfl)
    simp [asAddr, hl]
theorem Upd.setNew {S : Nat → Prop} {a b : World} (h : Upd S a b) {gb : Nat} (hg : a.heap.size ≤ gb) (i : Nat) (v : Value) : Upd S a (b.setCell ⟨gb, i, none⟩ v) :=
  ⟨h.os, h.tape, h.output, by simpa [World.setCell] using h.size, fun k hk hn => (Below.heap_setCell _ _ _ _ (by show k ≠ gb; omega)).trans (h.block k hk hn)⟩
theorem five_upd {S : Nat → Prop} {a b : World} (h : Upd S a b) {gb : Nat} (hg : a.heap.size ≤ gb) (v0 v1 v2 v3 v4 : Value) : Upd S a (((((b.setCell ⟨gb, 0, none⟩ v0).setCell ⟨gb, 1, none⟩ v1).setCell ⟨gb, 2, none⟩ v2).setCell ⟨gb, 3, none⟩ v3).setCell ⟨gb, 4, none⟩ v4) :=
  ((((h.setNew hg _ _).setNew hg _ _).setNew hg _ _).setNew hg _ _).setNew hg _ _
theorem five_far {b : World} {gb k : Nat} (hk : k ≠ gb) (v0 v1 v2 v3 v4 : Value) : (((((b.setCell ⟨gb, 0, none⟩ v0).setCell ⟨gb, 1, none⟩ v1).setCell ⟨gb, 2, none⟩ v2).setCell ⟨gb, 3, none⟩ v3).setCell ⟨gb, 4, none⟩ v4).heap[k]? = b.heap[k]? := by
  rw [Below.heap_setCell _ _ _ _ hk, Below.heap_setCell _ _ _ _ hk, Below.heap_setCell _ _ _ _ hk, Below.heap_setCell _ _ _ _ hk, Below.heap_setCell _ _ _ _ hk]
/-- what Whole and String of the reference's heap answer: v the value, sm: it needs no cell -/
def SPost (W : World) (rb : Nat) (lv : Value) (room : Nat) (L : List Rc) (ks : List Int) (v : Tv) (sm : Bool) (e : Ending) (w' : World) : Prop :=
  ∃ lv', Upd (fun k => k = rb ∨ lv.ownBlock = some k) W w' ∧ (∀ k, lv'.ownBlock = some k → lv.ownBlock = some k ∨ W.heap.size ≤ k) ∧
    ((sm = true ∧ e = .returned (.tuple #[.agg (Tv.cells ⟨v.whole, v.i, v.t, -1⟩).toArray, .int .i64 0]) ∧ Rh w' rb lv' room L) ∨
     (sm = false ∧ sumK L ks L.length + v.rc.need ≤ room ∧ e = .returned (.tuple #[.agg (Tv.cells ⟨v.whole, v.i, v.t, L.length⟩).toArray, .int .i64 0]) ∧ Rh w' rb lv' room (keepK L ks L.length ++ [v.rc])) ∨
     (sm = false ∧ room < sumK L ks L.length + v.rc.need ∧ e = .returned (.tuple #[.agg #[.int .i64 0, .int .i64 0, .int .u64 0, .string ⟨#[]⟩, .int .i64 0], .int .i64 40]) ∧ Rh w' rb lv' room (keepK L ks L.length)))
theorem two_alloc (W : World) (a b : Array Value) (t : TypeId) {w2 : World} (h : (W.alloc (.cells a t)).alloc (.cells b t) = w2) : Below W.heap.size W w2 ∧ w2.heap[W.heap.size]? = some (.cells a t (0, 0)) ∧ w2.heap[W.heap.size + 1]? = some (.cells b t (0, 0)) ∧ w2.heap.size = W.heap.size + 2 := by
  subst h
  have z1 : (W.alloc (.cells a t)).heap.size = W.heap.size + 1 := World.size_alloc ..
  have b1 : Below W.heap.size W (W.alloc (.cells a t)) := (Below.refl _ W).alloc (Nat.le_refl _) _
  have b2 : Below (W.alloc (.cells a t)).heap.size (W.alloc (.cells a t)) ((W.alloc (.cells a t)).alloc (.cells b t)) := (Below.refl _ _).alloc (Nat.le_refl _) _
  refine ⟨b1.trans (b2.mono b1.size), (b2.block _ (by omega)).trans (World.alloc_heap_new W _), ?_, by rw [World.size_alloc]; omega⟩
  have := World.alloc_heap_new (W.alloc (.cells a t)) (.cells b t)
  rw [z1] at this
  exact this
theorem PPost.two {W W' : World} {rb : Nat} {lv : Value} {room : Nat} {L : List Rc} {ks : List Int} {c : Rc} {e : Ending} (h : PPost W rb lv room L ks c e W') : ∃ x y, e = .returned (.tuple #[.int .i64 x, .int .i64 y]) := by
  obtain ⟨_, _, _, ⟨_, rfl, _⟩ | ⟨_, rfl, _⟩⟩ := h <;> exact ⟨_, _, rfl⟩
theorem PPost.split {W W' : World} {rb : Nat} {lv : Value} {room : Nat} {L : List Rc} {ks : List Int} {c : Rc} {x y : Int} (h : PPost W rb lv room L ks c (.returned (.tuple #[.int .i64 x, .int .i64 y])) W') :
    ∃ lv', Upd (fun k => k = rb ∨ lv.ownBlock = some k) W W' ∧ (∀ k, lv'.ownBlock = some k → lv.ownBlock = some k ∨ W.heap.size ≤ k) ∧
    ((sumK L ks L.length + c.need ≤ room ∧ x = (L.length : Nat) ∧ y = 0 ∧ Rh W' rb lv' room (keepK L ks L.length ++ [c])) ∨
     (room < sumK L ks L.length + c.need ∧ x = 0 ∧ y = 40 ∧ Rh W' rb lv' room (keepK L ks L.length))) := by
  obtain ⟨lv', h1, h2, ⟨h3, h4, h5⟩ | ⟨h3, h4, h5⟩⟩ := h
  · simp at h4
    exact ⟨lv', h1, h2, .inl ⟨h3, h4.1, h4.2, h5⟩⟩
  · simp at h4
    exact ⟨lv', h1, h2, .inr ⟨h3, h4.1, h4.2, h5⟩⟩
section
variable {W : World} {rb room : Nat} {lv : Value} {L : List Rc}
set_option maxRecDepth 100000 in
set_option maxHeartbeats 2000000 in
theorem whole7_c (h : Rh W rb lv room L) (hl : L.length < 100000) (hL : ∀ c ∈ L, c.ch ≤ 100000000) (hroom : room ≤ 1000000000000) (vr : Value) (vs : List Tv) (hr : W.ownsRow 0 95 5 vr vs.length (flatT vs)) (hin : ∀ v ∈ vs, v.cell < 0 ∨ ∃ k : Nat, v.cell = k ∧ k < L.length) (hn : vs.length ≤ 3000000) (i : Int) (t0 : Int) :
    Calls Tryz.prog 43 #[.pointer (some ⟨rb, 0, none⟩), .int .i64 i, vr] W (SPost W rb lv room L (vs.map Tv.cell) ⟨true, i, ⟨#[]⟩, t0⟩ (smallB i)) := by
  obtain ⟨orr, capr, rfl⟩ := slice_of hr
  obtain ⟨w2, hw2⟩ : ∃ w2, (W.alloc (.cells #[.int .i64 0, .int .i64 0, .int .u64 0, .string ⟨#[]⟩, .int .i64 0] 95)).alloc (.cells #[.int .i64 2, .int .i64 i, .int .u64 0, .string ⟨#[]⟩, .int .i64 (-1)] 95) = w2 := ⟨_, rfl⟩
  obtain ⟨hB, f0, f1, z2⟩ := two_alloc W _ _ _ hw2
  have cp : Calls Tryz.prog 78 #[.pointer (some ⟨rb, 0, none⟩), .agg #[.int .i64 2, .bool false, .int .i64 0, .slice none 0 0, .slice none 0 0, .int .i64 0, .int .i64 0, .int .i64 0, .bool false], .slice orr vs.length capr] w2 (PPost w2 rb lv room L (vs.map Tv.cell) .num) := put7_c (h.below hB) hl hL hroom _ vs (owns_on hr (fun k e => hB.block k (hr.lt k e).2)) hin hn .num (Nat.zero_le _) rfl
  have cs := refSmall_c i w2
  have hlt := fun k hk => h.lt k hk
  have HH := hid (h.below hB)
  have HL := hid hlt
  have HB := hid hB
  clear h hr hin hL
  cases hs : smallB i with
  | true =>
    rw [hs] at cs
    have c0 := fun j => cell_of_row w2 _ j _ _ _ f0
    have c1 := fun j => cell_of_row w2 _ j _ _ _ f1
    have zR : ∀ j, w2.frozen? ⟨W.heap.size, j, none⟩ = false := fun j => by simp only [World.frozen?, f0]; simp
    have F0 := hid f0
    clear cp f0 f1
    go_enter Tryz.func43, Tryz.ntmps43
    go_upto_region 3 with (go_at_call 79; (with_reducible refine cs.mono ?_); rintro e w' ⟨rfl, hw⟩; (have hw' := hw.symm); subst hw'; clear hw)
    go_wp2
    refine bodyPost_ret (tv_ret2 rfl _ _ W.heap.size _ _ _ _ _ (0, 0) rfl (five_set F0.out _ _ _ _ _)) rfl ?_
    refine ⟨lv, five_upd (Upd.of_below HB.out) (Nat.le_refl _) _ _ _ _ _, fun k e => .inl e, .inl ⟨rfl, rfl, HH.out.on (fun k hk => five_far (by have := HL.out k hk; omega) _ _ _ _ _)⟩⟩
  | false =>
    rw [hs] at cs
    go_enter Tryz.func43, Tryz.ntmps43
    go_upto_region 5 with (first | (go_at_call 79; (with_reducible refine cs.mono ?_); rintro e w' ⟨rfl, hw⟩; (have hw' := hw.symm); subst hw'; clear hw) | (go_at_call 78; (with_reducible refine cp.mono ?_); intro e w3 hP; (obtain ⟨x, y, rfl⟩ := hP.two); clear cp))
    obtain ⟨lv', hU, ho, hcase⟩ := hP.split
    clear hP cs
    have nb : ∀ k, W.heap.size ≤ k → ¬ (k = rb ∨ lv.ownBlock = some k) := fun k hk hc => by have := HL.out k hc; omega
    have nb' : ∀ k, (k = rb ∨ lv'.ownBlock = some k) → k < W.heap.size ∨ W.heap.size + 2 ≤ k := by
      rintro k (e | e)
      · exact .inl (HL.out k (.inl e))
      · rcases ho k e with e | e
        · exact .inl (HL.out k (.inr e))
        · exact .inr (by omega)
    have g0 := (hU.block _ (by omega) (nb _ (Nat.le_refl _))).trans f0
    have g1 := (hU.block _ (by omega) (nb _ (Nat.le_succ _))).trans f1
    have hUW : Upd (fun k => k = rb ∨ lv.ownBlock = some k) W w3 := (Upd.of_below HB.out).trans' hU
    have ho' : ∀ k, lv'.ownBlock = some k → lv.ownBlock = some k ∨ W.heap.size ≤ k := fun k e => (ho k e).imp id (fun h => by omega)
    have HU := hid (And.intro hUW (And.intro ho' nb'))
    clear hU ho hUW ho' nb nb' f0 f1
    rcases hcase with ⟨h1, rfl, rfl, hR⟩ | ⟨h1, rfl, rfl, hR⟩
    · have c1 := fun j => cell_of_row w3 _ j _ _ _ g1
      have c14 := c1 4
      have z1 : ∀ j, w3.frozen? ⟨W.heap.size + 1, j, none⟩ = false := fun j => by simp only [World.frozen?, g1]; simp
      have g1' := heap_set (c := [.int .i64 2, .int .i64 i, .int .u64 0, .string ⟨#[]⟩, .int .i64 (-1)]) g1 4 (.int .i64 (L.length : Nat))
      have g0' : (w3.setCell ⟨W.heap.size + 1, 4, none⟩ (.int .i64 (L.length : Nat))).heap[W.heap.size]? = some (.cells #[.int .i64 0, .int .i64 0, .int .u64 0, .string ⟨#[]⟩, .int .i64 0] 95 (0, 0)) := (Below.heap_setCell _ _ _ _ (by show W.heap.size ≠ W.heap.size + 1; omega)).trans g0
      have hR' : Rh (w3.setCell ⟨W.heap.size + 1, 4, none⟩ (.int .i64 (L.length : Nat))) rb lv' room (keepK L (vs.map Tv.cell) L.length ++ [.num]) := hR.on (fun k hk => Below.heap_setCell _ _ _ _ (by show k ≠ W.heap.size + 1; have := HU.out.2.2 k hk; omega))
      have hU' := HU.out.1.setNew (gb := W.heap.size + 1) (by omega) 4 (.int .i64 (L.length : Nat))
      have HG := hid (And.intro g1' (And.intro g0' (And.intro hR' hU')))
      clear g1 g0 g1' g0' hR' hU' hR
      go_upto_region 8 with fail
      generalize w3.setCell ⟨W.heap.size + 1, 4, none⟩ (.int .i64 (L.length : Nat)) = w4 at *
      obtain ⟨g1', g0', -, -⟩ := HG.out
      clear c1 c14 z1
      have c0 := fun j => cell_of_row w4 _ j _ _ _ g0'
      have c1 := fun j => cell_of_row w4 _ j _ _ _ g1'
      have zR : ∀ j, w4.frozen? ⟨W.heap.size, j, none⟩ = false := fun j => by simp only [World.frozen?, g0']; simp
      clear g0' g1'
      go_wp2
      refine bodyPost_ret (tv_ret2 rfl _ _ W.heap.size _ _ _ _ _ (0, 0) rfl (five_set HG.out.2.1 _ _ _ _ _)) rfl ?_
      refine ⟨lv', five_upd HG.out.2.2.2 (Nat.le_refl _) _ _ _ _ _, HU.out.2.1, .inr (.inl ⟨rfl, h1, rfl, HG.out.2.2.1.on (fun k hk => five_far (by have := HU.out.2.2 k hk; omega) _ _ _ _ _)⟩)⟩
    · have c0 := fun j => cell_of_row w3 _ j _ _ _ g0
      have zR : ∀ j, w3.frozen? ⟨W.heap.size, j, none⟩ = false := fun j => by simp only [World.frozen?, g0]; simp
      have HG := hid (And.intro g0 hR)
      clear g0 g1 hR
      go_wp2
      refine bodyPost_ret (tv_ret2 rfl _ _ W.heap.size _ _ _ _ _ (0, 0) rfl (five_set HG.out.1 _ _ _ _ _)) rfl ?_
      refine ⟨lv', five_upd HU.out.1 (Nat.le_refl _) _ _ _ _ _, HU.out.2.1, .inr (.inr ⟨rfl, h1, rfl, HG.out.2.on (fun k hk => five_far (by have := HU.out.2.2 k hk; omega) _ _ _ _ _)⟩)⟩
end
end Go.Proofs.YtndkfjoaiinjoaaGreat.W
