/- SitePlays: the walk. -/
import Derived.Test.YtalcfblknoojpaaSi7
namespace Go.Proofs.Ytalcfblknoojpaa.W
open Go.ChangeShapes Go.WideShapes Go.RowKit Si
set_option linter.unusedVariables false
namespace Sp
theorem bel_drew {n : Nat} {W W' : World} (h : Below n W.drew W') : Below n W W' := ⟨h.os, h.tape, h.output, h.size, h.block⟩
theorem long (x : Int) (o : Option Addr) (l c : Nat) (h : 500 < l) (w : World) : Calls Try.prog 3 #[.int .i64 x, .slice o l c] w fun e w' => e = .returned (.bool true) ∧ Below w.heap.size w w' := by
  have h' : (l : Int) > 500 := by omega
  clear h
  go_enter Try.func3, Try.ntmps3
  go_wp2
  go_ret
  exact ⟨rfl, Below.refl _ _⟩
/-- both sites -/
structure Two (w W : World) (x : Int) (s : Si.Sp) : Prop where
  a : SvS W 43 w.heap.size x (norm s)
  b : SvS W 29 (w.heap.size + 1) x s
  bel : Below w.heap.size w W
theorem Two.below {w W W' : World} {x : Int} {s : Si.Sp} (h : Two w W x s) (hb : Below W.heap.size W W') : Two w W' x s := ⟨Sv.below h.a hb, Sv.below h.b hb, h.bel.trans (hb.mono h.bel.size)⟩
theorem Two.first {w W : World} {x : Int} (h : SvS W 43 w.heap.size x (norm new)) (hb : Below w.heap.size w W) (hs : W.heap.size = w.heap.size + 1) : Two w (W.alloc (.cells #[.int .i64 x, .int .i64 0, .int .i64 0, .int .i64 0, .int .i64 0, .int .i64 0, .int .i64 0] 29)) x new := by
  refine ⟨SvS.alloc h (Below.refl _ W) _, ?_, hb.alloc hb.size _⟩
  have := heap_alloc_new W (.cells #[.int .i64 x, .int .i64 0, .int .i64 0, .int .i64 0, .int .i64 0, .int .i64 0, .int .i64 0] 29)
  rw [hs] at this
  exact this
theorem upd_drew {S : Nat → Prop} {W W' : World} (h : Upd S W.drew W') : Upd S W W' := ⟨h.os, h.tape, h.output, h.size, h.block⟩
theorem Two.both {w W W1 W2 : World} {x : Int} {s s' : Si.Sp} (h : Two w W x s) (h1 : SvS W1 43 w.heap.size x (norm s')) (u1 : Upd (fun k => k = w.heap.size) W W1) (h2 : SvS W2 29 (w.heap.size + 1) x s') (u2 : Upd (fun k => k = w.heap.size + 1) W1 W2) : Two w W2 x s' :=
  ⟨Sv.on h1 (u2.block _ (Sv.lt h1) (by omega)), h2, upd_bl (upd_bl h.bel (Nat.le_refl _) u1 (Nat.le_refl _)) (Nat.le_refl _) u2 (by omega)⟩
theorem Two.mid {w W W1 : World} {x : Int} {s s' : Si.Sp} (h : Two w W x s) (u1 : Upd (fun k => k = w.heap.size) W W1) : SvS W1 29 (w.heap.size + 1) x s := Sv.on h.b (u1.block _ (Sv.lt h.b) (by omega))
set_option maxHeartbeats 2000000 in
theorem main (x : Int) (o : Option Addr) (l c : Nat) (F : Nat → Bool) (N : Nat → Int) (w : World) (R : ActsAt w o l c F N) (hl : l ≤ 500) : Calls Try.prog 3 #[.int .i64 x, .slice o l c] w fun e w' => e = .returned (.bool true) ∧ Below w.heap.size w w' := by
  have cn := new_c x w
  have hl' : ¬ (l : Int) > 500 := by omega
  go_enter Try.func3, Try.ntmps3
  go_upto_region 5 with (go_at_call 6; (with_reducible refine cn.mono ?_); rintro e w1 ⟨rfl, h1, b1, s1⟩; clear cn)
  have t2 := Two.first h1 b1 s1
  generalize w1.alloc _ = W2 at *
  clear h1 b1 s1
  have ct := tell_c (W := W2.drew) (show SvS W2.drew 43 w.heap.size x (norm new) from t2.a)
  rw [show told x (norm new) = .agg #[.int .i64 x, .int .i64 0, .int .i64 0, .int .i64 0, .int .i64 0] from rfl] at ct
  have c2 := Sv.cells t2.b
  have c2' : ∀ j, W2.drew.cell? ⟨w.heap.size + 1, j, none⟩ = #[Value.int .i64 x, .int .i64 0, .int .i64 0, .int .i64 0, .int .i64 0, .int .i64 0, .int .i64 0][j]? := c2
  go_region_held3 (fun w' => ∀ i, w'.cell? ⟨w.heap.size + 1, i, none⟩ = #[Value.int .i64 x, .int .i64 0, .int .i64 0, .int .i64 0, .int .i64 0, .int .i64 0, .int .i64 0][i]?) (first | exact c2 | exact c2' | exact c3) (first | (go_at_call 7; (with_reducible refine ct.mono ?_); rintro e w3 ⟨rfl, b3⟩; clear ct; (have t3 := t2.below (bel_drew b3)); (have c3 := Sv.cells t3.b); clear c2 c2'))
  clear t2 c3 b3
  have HT := hid t3
  clear t3
  go_wp2
  go_loopw [7] (fun ii wr => ∃ j : Nat, j ≤ l ∧ ii = .int .i64 j ∧ Two w wr x (playS F N j)) (fun ii _ => l - (intOf ii).toNat)
  case atStart => exact ⟨0, by omega, rfl, HT.out⟩
  case round =>
    obtain ⟨j, hj, rfl, hT⟩ := hrel
    clear HT
    by_cases hlt : j < l
    · have ho : ∃ a, o = some a := by
        rcases R.some with h | h
        · omega
        · exact h
      obtain ⟨a, rfl⟩ := ho
      have ok := play_ok F N j
      obtain ⟨k1, k2⟩ := R.cell hT.bel hlt
      have j0 : (0 : Int) ≤ j := Int.natCast_nonneg _
      have j1 : (j : Int) < l := by omega
      by_cases hF : F j = true
      · rw [hF] at k1
        have hE : playS F N (j + 1) = forceS (playS F N j) (N j) := if_pos hF
        have cf := force_c (W := wr.drew) (show SvS wr.drew 43 w.heap.size x (norm (playS F N j)) from hT.a) (N j)
        have cr : ∀ w1, SvS w1 29 (w.heap.size + 1) x (playS F N j) → _ := fun w1 h => refForce_c h (N j)
        rw [← hE] at cf cr
        generalize forceA (N j) = X at *
        have CR := hid cr
        have HT := hid hT
        have HR : Hid (∀ w', Below w.heap.size w w' → w'.cell? ⟨(a.add (j * 2)).block, (a.add (j * 2)).off + 1, none⟩ = some (.int .i64 (N j))) := fun w' hb => (R.cell hb hlt).2
        have OK := hid ok
        clear hE cr hF hT R ok
        generalize hS1 : playS F N (j + 1) = S1 at *
        have HS1 := hid hS1
        clear hS1
        go_upto_region 11 with fail
        go_region_held3 (fun w' => w'.cell? ⟨(a.add (j * 2)).block, (a.add (j * 2)).off + 1, none⟩ = some (.int .i64 (N j))) (first | exact k2 | exact k3 | exact k4) (first | (go_at_call 8; (with_reducible refine cf.mono ?_); rintro e w1 ⟨rfl, g1, v1⟩; clear cf; (replace v1 := upd_drew v1); (have k3 := HR.out w1 (upd_bl HT.out.bel (Nat.le_refl _) v1 (Nat.le_refl _))); (have cr := CR.out w1 (HT.out.mid (s' := S1) v1)); clear k2) | (go_at_call 9; (with_reducible refine cr.mono ?_); rintro e w2 ⟨rfl, g2, v2⟩; clear cr; (have t4 := HT.out.both g1 v1 g2 v2); (have k4 := HR.out w2 t4.bel); clear k3 g1 g2 v1 v2))
        clear HT CR HR k4
        have H4 := hid t4
        clear t4
        go_upto_region 15 with fail
        have ct := tell_c (W := w2.drew) (show SvS w2.drew 43 w.heap.size x (norm S1) from H4.out.a)
        rw [norm_told] at ct
        have c5 := Sv.cells H4.out.b
        go_region_held3 (fun w' => ∀ i, w'.cell? ⟨w.heap.size + 1, i, none⟩ = #[Value.int .i64 x, .int .i64 S1.form, .int .i64 S1.gen, .int .i64 S1.fast, .int .i64 S1.fails, .int .i64 S1.kind, .int .i64 S1.row][i]?) (first | exact c5 | exact c6) (first | (go_at_call 7; (with_reducible refine ct.mono ?_); rintro e w5 ⟨rfl, b5⟩; clear ct; (have t5 := H4.out.below (bel_drew b5)); (have c6 := Sv.cells t5.b); clear c5))
        have H5 := hid t5
        clear t5 c6 b5 H4
        go_wp2
        go_roundw
        case rel => exact ⟨j + 1, by omega, by go_num, by rw [HS1.out]; exact H5.out⟩
        case measure => simp [intOf]; omega
      · rw [show F j = false by simpa using hF] at k1
        have hE : playS F N (j + 1) = onS (playS F N j) (N j) := if_neg hF
        have cf := on_c (W := wr.drew) ok (by omega) (show SvS wr.drew 43 w.heap.size x (norm (playS F N j)) from hT.a) (N j)
        have cr : ∀ w1, SvS w1 29 (w.heap.size + 1) x (playS F N j) → _ := fun w1 h => refOn_c ok (by omega) h (N j)
        rw [← hE] at cf cr
        generalize onA (playS F N j) (N j) = X at *
        have CR := hid cr
        have HT := hid hT
        have HR : Hid (∀ w', Below w.heap.size w w' → w'.cell? ⟨(a.add (j * 2)).block, (a.add (j * 2)).off + 1, none⟩ = some (.int .i64 (N j))) := fun w' hb => (R.cell hb hlt).2
        have OK := hid ok
        clear hE cr hF hT R ok
        generalize hS1 : playS F N (j + 1) = S1 at *
        have HS1 := hid hS1
        clear hS1
        go_upto_region 13 with fail
        go_region_held3 (fun w' => w'.cell? ⟨(a.add (j * 2)).block, (a.add (j * 2)).off + 1, none⟩ = some (.int .i64 (N j))) (first | exact k2 | exact k3 | exact k4) (first | (go_at_call 10; (with_reducible refine cf.mono ?_); rintro e w1 ⟨rfl, g1, v1⟩; clear cf; (replace v1 := upd_drew v1); (have k3 := HR.out w1 (upd_bl HT.out.bel (Nat.le_refl _) v1 (Nat.le_refl _))); (have cr := CR.out w1 (HT.out.mid (s' := S1) v1)); clear k2) | (go_at_call 11; (with_reducible refine cr.mono ?_); rintro e w2 ⟨rfl, g2, v2⟩; clear cr; (have t4 := HT.out.both g1 v1 g2 v2); (have k4 := HR.out w2 t4.bel); clear k3 g1 g2 v1 v2))
        clear HT CR HR k4
        have H4 := hid t4
        clear t4
        go_upto_region 15 with fail
        have ct := tell_c (W := w2.drew) (show SvS w2.drew 43 w.heap.size x (norm S1) from H4.out.a)
        rw [norm_told] at ct
        have c5 := Sv.cells H4.out.b
        go_region_held3 (fun w' => ∀ i, w'.cell? ⟨w.heap.size + 1, i, none⟩ = #[Value.int .i64 x, .int .i64 S1.form, .int .i64 S1.gen, .int .i64 S1.fast, .int .i64 S1.fails, .int .i64 S1.kind, .int .i64 S1.row][i]?) (first | exact c5 | exact c6) (first | (go_at_call 7; (with_reducible refine ct.mono ?_); rintro e w5 ⟨rfl, b5⟩; clear ct; (have t5 := H4.out.below (bel_drew b5)); (have c6 := Sv.cells t5.b); clear c5))
        have H5 := hid t5
        clear t5 c6 b5 H4
        go_wp2
        go_roundw
        case rel => exact ⟨j + 1, by omega, by go_num, by rw [HS1.out]; exact H5.out⟩
        case measure => simp [intOf]; omega
    · have e : j = l := by omega
      subst e
      have HB := hid hT.bel
      clear hT
      go_wp2_with (go_at_call 12; (with_reducible refine (awake_c _).mono ?_); rintro e w5 ⟨rfl, b5⟩)
      go_ret
      exact ⟨rfl, HB.out.trans (b5.mono HB.out.size)⟩
end Sp
theorem sitePlays_walk (x : Int) (x0 : (Lit.int .i64 x).wf = true) (o : Option Addr) (l c : Nat) (F : Nat → Bool) (N : Nat → Int) (w : World) (R : ActsAt w o l c F N) : Calls Try.prog 3 #[.int .i64 x, .slice o l c] w fun e w' => e = .returned (.bool true) ∧ Below w.heap.size w w' := by
  by_cases h : 500 < l
  · exact Sp.long x o l c h w
  · exact Sp.main x o l c F N w R (by omega)
end Go.Proofs.Ytalcfblknoojpaa.W
