/- SiteForced: the walk. -/
import Derived.Test.YtalcfblknoojpaaSi6
import Derived.Test.YtalcfblknoojpaaSiOpen
import Derived.Deep.RegionHeld3
namespace Go.Proofs.Ytalcfblknoojpaa.W
open Go.ChangeShapes Go.WideShapes Go.RowKit Si
set_option linter.unusedVariables false
namespace Sf
theorem five_set {w : World} {gb : Nat} {z0 z1 z2 z3 z4 : Value} {t : TypeId} (hg : w.heap[gb]? = some (.cells #[z0, z1, z2, z3, z4] t (0, 0))) (v0 v1 v2 v3 v4 : Value) : (((((w.setCell ⟨gb, 0, none⟩ v0).setCell ⟨gb, 1, none⟩ v1).setCell ⟨gb, 2, none⟩ v2).setCell ⟨gb, 3, none⟩ v3).setCell ⟨gb, 4, none⟩ v4).heap[gb]? = some (.cells #[v0, v1, v2, v3, v4] t (0, 0)) := by
  have h0 : w.heap[gb]? = some (.cells [z0, z1, z2, z3, z4].toArray t (0, 0)) := hg
  have h1 := heap_set h0 0 v0
  have h2 := heap_set h1 1 v1
  have h3 := heap_set h2 2 v2
  have h4 := heap_set h3 3 v3
  exact heap_set h4 4 v4
theorem bad (f n p : Int) (w : World) (h : f < 0 ∨ 2 < f ∨ n < 0 ∨ 100 < n) : Calls Try.prog 5 #[.int .i64 f, .int .i64 n, .int .i64 p] w fun e w' => e = .returned (.bool true) ∧ Below w.heap.size w w' := by
  by_cases c1 : f < 0
  · clear h
    go_enter Try.func5, Try.ntmps5
    go_wp2
    go_ret
    exact ⟨rfl, Below.refl _ _⟩
  · by_cases c2 : f > 2
    · clear h
      go_enter Try.func5, Try.ntmps5
      go_wp2
      go_ret
      exact ⟨rfl, Below.refl _ _⟩
    · by_cases c3 : n < 0
      · clear h
        go_enter Try.func5, Try.ntmps5
        go_wp2
        go_ret
        exact ⟨rfl, Below.refl _ _⟩
      · have c4 : n > 100 := by omega
        clear h
        go_enter Try.func5, Try.ntmps5
        go_wp2
        go_ret
        exact ⟨rfl, Below.refl _ _⟩
/-- a form that was forced, behind j executions of it -/
def fj (f : Int) (j : Nat) : Sp := ⟨f, 0, j, 0, 0, 0⟩
theorem fj_ok (f : Int) (hf : f = 0 ∨ f = 1 ∨ f = 2) (j : Nat) : Ok (j : Int) (fj f j) := ⟨hf, by simp [fj], by simp [fj], by simp [fj], by simp [fj], .inl rfl, by simp [fj], by simp [fj]⟩
theorem fj_on (f : Int) (hf : f = 1 ∨ f = 2) (j : Nat) : onS (fj f j) f = fj f (j + 1) ∧ onA (fj f j) f = f := by
  obtain ⟨h1, h2⟩ := forced_step hf (fj f j) rfl
  refine ⟨h1.trans ?_, h2⟩
  simp [fj]
theorem fj_force (f : Int) (hf : ¬ (f < 0 ∨ 2 < f)) : forceS new f = fj f 0 ∧ forceA f = 0 := by
  unfold forceS forceA
  rw [if_neg hf, if_neg hf]
  exact ⟨rfl, rfl⟩
set_option maxHeartbeats 1000000 in
theorem one (n p : Int) (w : World) (n0 : 0 ≤ n) (n1 : n ≤ 100) : Calls Try.prog 5 #[.int .i64 1, .int .i64 n, .int .i64 p] w fun e w' => e = .returned (.bool true) ∧ Below w.heap.size w w' := by
  have cn := new_c 5 w
  have n0' : ¬ n < 0 := by omega
  have n1' : ¬ n > 100 := by omega
  go_enter Try.func5, Try.ntmps5
  go_wp2_with (first | (go_at_call 6; (with_reducible refine cn.mono ?_); rintro e w1 ⟨rfl, h1, b1, s1⟩; clear cn; (have cf := force_c h1 1); (rw [(fj_force 1 (by omega)).1, (fj_force 1 (by omega)).2] at cf); (have b1' := hid b1); clear b1 s1) | (go_at_call 8; (with_reducible refine cf.mono ?_); rintro e w2 ⟨rfl, h2, u2⟩; clear cf; (have b2 := hid (upd_bl b1'.out (Nat.le_refl _) u2 (Nat.le_refl _))); clear u2 h1; (have ct := tell_c h2); (rw [show told 5 (norm (fj 1 0)) = .agg #[.int .i64 5, .int .i64 1, .int .i64 0, .int .i64 0, .int .i64 0] from rfl] at ct)) | (go_at_call 7; (with_reducible refine ct.mono ?_); rintro e w3 ⟨rfl, b3⟩; clear ct))
  have h3 := h2.below b3
  have b3' := hid (b2.out.trans (b3.mono b2.out.size))
  clear h2 b2 b3 b1'
  go_loopw [8] (fun ii wr => ∃ j : Nat, (j : Int) ≤ n ∧ ii = .int .i64 j ∧ SvS wr 43 w.heap.size 5 (norm (fj 1 j)) ∧ Below w.heap.size w wr) (fun ii _ => n.toNat - (intOf ii).toNat)
  case atStart => exact ⟨0, by omega, rfl, h3, b3'.out⟩
  case round =>
    obtain ⟨j, hj, rfl, hv, hB⟩ := hrel
    have HB := hid hB
    clear hB
    by_cases hlt : (j : Int) < n
    · have co := on_c (fj_ok 1 (by omega) j) (by omega) hv 1
      rw [(fj_on 1 (by omega) j).1, (fj_on 1 (by omega) j).2] at co
      clear hv
      go_wp2_with (go_at_call 10; (with_reducible refine co.mono ?_); rintro e w4 ⟨rfl, h4, u4⟩; clear co)
      go_roundw
      case rel => exact ⟨j + 1, by omega, by go_num, h4, upd_bl HB.out (Nat.le_refl _) u4 (Nat.le_refl _)⟩
      case measure => simp [intOf]; omega
    · have e3 : n = (j : Int) := by omega
      subst e3
      have ct := tell_c hv
      rw [show told 5 (norm (fj 1 j)) = .agg #[.int .i64 5, .int .i64 1, .int .i64 0, .int .i64 j, .int .i64 0] from rfl] at ct
      have Hj : Hid ((j : Int) + 1 ≤ 1000000000) := by show (j : Int) + 1 ≤ 1000000000; omega
      clear n0 n1 n0' n1' hlt hj
      by_cases hp : p = 1
      · subst hp
        clear h3 b3'
        go_wp2_with (first | (go_at_call 7; (with_reducible refine ct.mono ?_); rintro e w3 ⟨rfl, b3⟩; clear ct) | (go_at_call 12; (with_reducible refine (awake_c _).mono ?_); rintro e w5 ⟨rfl, b5⟩))
        go_ret
        have b4 := HB.out.trans (b3.mono HB.out.size)
        have b4' := b4.alloc b4.size (.cells #[.int .i64 5, .int .i64 1, .int .i64 0, .int .i64 j, .int .i64 0] 27)
        exact ⟨rfl, b4'.trans (b5.mono b4'.size)⟩
      · have hp' : (p == 1) = false := by simp [hp]
        obtain ⟨e1, e2, e3, e4, e5⟩ := forced_end (s := fj 1 j) p (by simp [fj]; omega) rfl
        have eT : told 5 (norm (onS (fj 1 j) p)) = .agg #[.int .i64 5, .int .i64 0, .int .i64 1, .int .i64 j, .int .i64 1] := by
          show Value.agg #[_, .int .i64 (onS (fj 1 j) p).form, .int .i64 (onS (fj 1 j) p).gen, .int .i64 (onS (fj 1 j) p).fast, .int .i64 (onS (fj 1 j) p).fails] = _
          rw [e2, e3, e4, e5]
          simp [fj]
        have hs : forceS (onS (fj 1 j) p) 3 = onS (fj 1 j) p := if_pos (by omega)
        have ET := hid eT
        have HS := hid hs
        have E1 := hid e1
        clear hp e1 e2 e3 e4 e5 eT hs h3 b3'
        go_upto_region 16 with (go_at_call 7; (with_reducible refine ct.mono ?_); rintro e w3 ⟨rfl, b3⟩; clear ct)
        have h4 := (hv.below b3).below ((Below.refl _ w3).alloc (Nat.le_refl _) (.cells #[.int .i64 5, .int .i64 1, .int .i64 0, .int .i64 j, .int .i64 0] 27))
        have hN := heap_alloc_new w3 (.cells #[.int .i64 5, .int .i64 1, .int .i64 0, .int .i64 j, .int .i64 0] 27)
        have b4 := HB.out.trans (b3.mono HB.out.size)
        have b4' := hid (b4.alloc b4.size (.cells #[.int .i64 5, .int .i64 1, .int .i64 0, .int .i64 j, .int .i64 0] 27))
        have hne : w.heap.size ≠ w3.heap.size := by have := hv.lt; have := b3.size; omega
        have hle : w.heap.size ≤ w3.heap.size := by have := hv.lt; have := b3.size; omega
        have hsz : w3.heap.size < (w3.alloc (.cells #[.int .i64 5, .int .i64 1, .int .i64 0, .int .i64 j, .int .i64 0] 27)).heap.size := by simp
        generalize w3.alloc (.cells #[.int .i64 5, .int .i64 1, .int .i64 0, .int .i64 j, .int .i64 0] 27) = W4 at *
        generalize w3.heap.size = B at *
        have Hne := hid hne
        have Hle : Hid (w.heap.size ≤ B) := hle
        have Hsz := hid hsz
        clear b3 b4 hv HB hne hsz hle
        have co := on_c (fj_ok 1 (by omega) j) Hj.out h4 p
        rw [E1.out] at co
        go_upto_region 17 with (go_at_call 10; (with_reducible refine co.mono ?_); rintro e w5 ⟨rfl, h5, u5⟩; clear co)
        have hN5 := (u5.block B Hsz.out (fun e => Hne.out e.symm)).trans hN
        have b5 := upd_bl b4'.out (Nat.le_refl _) u5 (Nat.le_refl _)
        have s5 := Nat.lt_of_lt_of_le Hsz.out u5.size
        have ct5 := tell_c h5
        rw [ET.out] at ct5
        clear h4 hN b4' u5 Hsz
        go_upto_region 18 with (go_at_call 7; (with_reducible refine ct5.mono ?_); rintro e w6 ⟨rfl, b6⟩; clear ct5; (have hN6 := (b6.block B s5).trans hN5); (have c6 := fun i => cell_of_row w6 B i _ _ (0, 0) hN6); (have z6 : ∀ i, w6.frozen? ⟨B, i, none⟩ = false := fun i => by simp [World.frozen?, hN6]))
        have h6 := h5.below b6
        have u7 := (((((Upd.refl (· = B) w6).one 0 (.int .i64 5)).one 1 (.int .i64 0)).one 2 (.int .i64 1)).one 3 (.int .i64 j)).one 4 (.int .i64 1)
        have hN7 := five_set hN6 (.int .i64 5) (.int .i64 0) (.int .i64 1) (.int .i64 j) (.int .i64 1)
        have b6' := b5.trans (b6.mono b5.size)
        have s7 := Nat.lt_of_lt_of_le s5 (Nat.le_trans b6.size u7.size)
        have hlB : w.heap.size ≤ B := by have := Hle.out; omega
        have b7 := hid (upd_bl b6' (Nat.le_refl _) u7 hlB)
        have h7 := h6.on (u7.block _ h6.lt Hne.out)
        generalize World.setCell (World.setCell (World.setCell (World.setCell (World.setCell w6 _ _) _ _) _ _) _ _) _ _ = W7 at *
        clear h5 hN5 b5 s5 c6 z6 hN6 h6 u7 b6 b6' hlB Hle
        have cf := force_c (W := W7.drew) (show SvS W7.drew 43 w.heap.size 5 (norm (onS (fj 1 j) p)) from h7) 3
        rw [HS.out, show forceA 3 = 1 from rfl] at cf
        have c7 := fun i => cell_of_row W7 B i _ _ (0, 0) hN7
        go_upto_region 21 with fail
        go_region_held3 (fun w' => ∀ i, w'.cell? ⟨B, i, none⟩ = #[Value.int .i64 5, .int .i64 0, .int .i64 1, .int .i64 j, .int .i64 1][i]?) (first | exact c7 | exact c8 | exact c9 | exact c10) (first | (go_at_call 8; (with_reducible refine cf.mono ?_); rintro e w8 ⟨rfl, h8, u8⟩; clear cf; (have hN8 := (u8.block B s7 (fun e => Hne.out e.symm)).trans hN7); (have c8 := fun i => cell_of_row w8 B i _ _ (0, 0) hN8); (have s8 := Nat.lt_of_lt_of_le s7 u8.size); (have b8 := hid (upd_bl (b7.out.trans (⟨rfl, rfl, rfl, Nat.le_refl _, fun _ _ => rfl⟩ : Below w.heap.size W7 W7.drew)) (Nat.le_refl _) u8 (Nat.le_refl _))); (have ct8 := tell_c h8); (rw [ET.out] at ct8); clear c7 hN7 u8) | (go_at_call 7; (with_reducible refine ct8.mono ?_); rintro e w9 ⟨rfl, b9⟩; clear ct8; (have hN9 := (b9.block B s8).trans hN8); (have c9 := fun i => cell_of_row w9 B i _ _ (0, 0) hN9); (have s9 := Nat.lt_of_lt_of_le s8 b9.size); (have b9' := hid (b8.out.trans (b9.mono b8.out.size))); clear c8 hN8 b9) | (go_at_call 12; (with_reducible refine (awake_c _).mono ?_); rintro e w10 ⟨rfl, b10⟩; (have c10 := fun i => cell_of_row w10 B i _ _ (0, 0) ((b10.block B s9).trans hN9)); (have b10' := hid (b9'.out.trans (b10.mono b9'.out.size))); clear c9 hN9 b10))
        go_wp2
        go_ret
        exact ⟨rfl, b10'.out⟩
set_option maxHeartbeats 1000000 in
theorem two (n p : Int) (w : World) (n0 : 0 ≤ n) (n1 : n ≤ 100) : Calls Try.prog 5 #[.int .i64 2, .int .i64 n, .int .i64 p] w fun e w' => e = .returned (.bool true) ∧ Below w.heap.size w w' := by
  have cn := new_c 5 w
  have n0' : ¬ n < 0 := by omega
  have n1' : ¬ n > 100 := by omega
  go_enter Try.func5, Try.ntmps5
  go_wp2_with (first | (go_at_call 6; (with_reducible refine cn.mono ?_); rintro e w1 ⟨rfl, h1, b1, s1⟩; clear cn; (have cf := force_c h1 2); (rw [(fj_force 2 (by omega)).1, (fj_force 2 (by omega)).2] at cf); (have b1' := hid b1); clear b1 s1) | (go_at_call 8; (with_reducible refine cf.mono ?_); rintro e w2 ⟨rfl, h2, u2⟩; clear cf; (have b2 := hid (upd_bl b1'.out (Nat.le_refl _) u2 (Nat.le_refl _))); clear u2 h1; (have ct := tell_c h2); (rw [show told 5 (norm (fj 2 0)) = .agg #[.int .i64 5, .int .i64 2, .int .i64 0, .int .i64 0, .int .i64 0] from rfl] at ct)) | (go_at_call 7; (with_reducible refine ct.mono ?_); rintro e w3 ⟨rfl, b3⟩; clear ct))
  have h3 := h2.below b3
  have b3' := hid (b2.out.trans (b3.mono b2.out.size))
  clear h2 b2 b3 b1'
  go_loopw [8] (fun ii wr => ∃ j : Nat, (j : Int) ≤ n ∧ ii = .int .i64 j ∧ SvS wr 43 w.heap.size 5 (norm (fj 2 j)) ∧ Below w.heap.size w wr) (fun ii _ => n.toNat - (intOf ii).toNat)
  case atStart => exact ⟨0, by omega, rfl, h3, b3'.out⟩
  case round =>
    obtain ⟨j, hj, rfl, hv, hB⟩ := hrel
    have HB := hid hB
    clear hB
    by_cases hlt : (j : Int) < n
    · have co := on_c (fj_ok 2 (by omega) j) (by omega) hv 2
      rw [(fj_on 2 (by omega) j).1, (fj_on 2 (by omega) j).2] at co
      clear hv
      go_wp2_with (go_at_call 10; (with_reducible refine co.mono ?_); rintro e w4 ⟨rfl, h4, u4⟩; clear co)
      go_roundw
      case rel => exact ⟨j + 1, by omega, by go_num, h4, upd_bl HB.out (Nat.le_refl _) u4 (Nat.le_refl _)⟩
      case measure => simp [intOf]; omega
    · have e3 : n = (j : Int) := by omega
      subst e3
      have ct := tell_c hv
      rw [show told 5 (norm (fj 2 j)) = .agg #[.int .i64 5, .int .i64 2, .int .i64 0, .int .i64 j, .int .i64 0] from rfl] at ct
      have Hj : Hid ((j : Int) + 1 ≤ 1000000000) := by show (j : Int) + 1 ≤ 1000000000; omega
      clear n0 n1 n0' n1' hlt hj
      by_cases hp : p = 2
      · subst hp
        clear h3 b3'
        go_wp2_with (first | (go_at_call 7; (with_reducible refine ct.mono ?_); rintro e w3 ⟨rfl, b3⟩; clear ct) | (go_at_call 12; (with_reducible refine (awake_c _).mono ?_); rintro e w5 ⟨rfl, b5⟩))
        go_ret
        have b4 := HB.out.trans (b3.mono HB.out.size)
        have b4' := b4.alloc b4.size (.cells #[.int .i64 5, .int .i64 2, .int .i64 0, .int .i64 j, .int .i64 0] 27)
        exact ⟨rfl, b4'.trans (b5.mono b4'.size)⟩
      · have hp' : (p == 2) = false := by simp [hp]
        obtain ⟨e1, e2, e3, e4, e5⟩ := forced_end (s := fj 2 j) p (by simp [fj]; omega) rfl
        have eT : told 5 (norm (onS (fj 2 j) p)) = .agg #[.int .i64 5, .int .i64 0, .int .i64 1, .int .i64 j, .int .i64 1] := by
          show Value.agg #[_, .int .i64 (onS (fj 2 j) p).form, .int .i64 (onS (fj 2 j) p).gen, .int .i64 (onS (fj 2 j) p).fast, .int .i64 (onS (fj 2 j) p).fails] = _
          rw [e2, e3, e4, e5]
          simp [fj]
        have hs : forceS (onS (fj 2 j) p) 3 = onS (fj 2 j) p := if_pos (by omega)
        have ET := hid eT
        have HS := hid hs
        have E1 := hid e1
        clear hp e1 e2 e3 e4 e5 eT hs h3 b3'
        go_upto_region 16 with (go_at_call 7; (with_reducible refine ct.mono ?_); rintro e w3 ⟨rfl, b3⟩; clear ct)
        have h4 := (hv.below b3).below ((Below.refl _ w3).alloc (Nat.le_refl _) (.cells #[.int .i64 5, .int .i64 2, .int .i64 0, .int .i64 j, .int .i64 0] 27))
        have hN := heap_alloc_new w3 (.cells #[.int .i64 5, .int .i64 2, .int .i64 0, .int .i64 j, .int .i64 0] 27)
        have b4 := HB.out.trans (b3.mono HB.out.size)
        have b4' := hid (b4.alloc b4.size (.cells #[.int .i64 5, .int .i64 2, .int .i64 0, .int .i64 j, .int .i64 0] 27))
        have hne : w.heap.size ≠ w3.heap.size := by have := hv.lt; have := b3.size; omega
        have hle : w.heap.size ≤ w3.heap.size := by have := hv.lt; have := b3.size; omega
        have hsz : w3.heap.size < (w3.alloc (.cells #[.int .i64 5, .int .i64 2, .int .i64 0, .int .i64 j, .int .i64 0] 27)).heap.size := by simp
        generalize w3.alloc (.cells #[.int .i64 5, .int .i64 2, .int .i64 0, .int .i64 j, .int .i64 0] 27) = W4 at *
        generalize w3.heap.size = B at *
        have Hne := hid hne
        have Hle : Hid (w.heap.size ≤ B) := hle
        have Hsz := hid hsz
        clear b3 b4 hv HB hne hsz hle
        have co := on_c (fj_ok 2 (by omega) j) Hj.out h4 p
        rw [E1.out] at co
        go_upto_region 17 with (go_at_call 10; (with_reducible refine co.mono ?_); rintro e w5 ⟨rfl, h5, u5⟩; clear co)
        have hN5 := (u5.block B Hsz.out (fun e => Hne.out e.symm)).trans hN
        have b5 := upd_bl b4'.out (Nat.le_refl _) u5 (Nat.le_refl _)
        have s5 := Nat.lt_of_lt_of_le Hsz.out u5.size
        have ct5 := tell_c h5
        rw [ET.out] at ct5
        clear h4 hN b4' u5 Hsz
        go_upto_region 18 with (go_at_call 7; (with_reducible refine ct5.mono ?_); rintro e w6 ⟨rfl, b6⟩; clear ct5; (have hN6 := (b6.block B s5).trans hN5); (have c6 := fun i => cell_of_row w6 B i _ _ (0, 0) hN6); (have z6 : ∀ i, w6.frozen? ⟨B, i, none⟩ = false := fun i => by simp [World.frozen?, hN6]))
        have h6 := h5.below b6
        have u7 := (((((Upd.refl (· = B) w6).one 0 (.int .i64 5)).one 1 (.int .i64 0)).one 2 (.int .i64 1)).one 3 (.int .i64 j)).one 4 (.int .i64 1)
        have hN7 := five_set hN6 (.int .i64 5) (.int .i64 0) (.int .i64 1) (.int .i64 j) (.int .i64 1)
        have b6' := b5.trans (b6.mono b5.size)
        have s7 := Nat.lt_of_lt_of_le s5 (Nat.le_trans b6.size u7.size)
        have hlB : w.heap.size ≤ B := by have := Hle.out; omega
        have b7 := hid (upd_bl b6' (Nat.le_refl _) u7 hlB)
        have h7 := h6.on (u7.block _ h6.lt Hne.out)
        generalize World.setCell (World.setCell (World.setCell (World.setCell (World.setCell w6 _ _) _ _) _ _) _ _) _ _ = W7 at *
        clear h5 hN5 b5 s5 c6 z6 hN6 h6 u7 b6 b6' hlB Hle
        have cf := force_c (W := W7.drew) (show SvS W7.drew 43 w.heap.size 5 (norm (onS (fj 2 j) p)) from h7) 3
        rw [HS.out, show forceA 3 = 1 from rfl] at cf
        have c7 := fun i => cell_of_row W7 B i _ _ (0, 0) hN7
        go_upto_region 21 with fail
        go_region_held3 (fun w' => ∀ i, w'.cell? ⟨B, i, none⟩ = #[Value.int .i64 5, .int .i64 0, .int .i64 1, .int .i64 j, .int .i64 1][i]?) (first | exact c7 | exact c8 | exact c9 | exact c10) (first | (go_at_call 8; (with_reducible refine cf.mono ?_); rintro e w8 ⟨rfl, h8, u8⟩; clear cf; (have hN8 := (u8.block B s7 (fun e => Hne.out e.symm)).trans hN7); (have c8 := fun i => cell_of_row w8 B i _ _ (0, 0) hN8); (have s8 := Nat.lt_of_lt_of_le s7 u8.size); (have b8 := hid (upd_bl (b7.out.trans (⟨rfl, rfl, rfl, Nat.le_refl _, fun _ _ => rfl⟩ : Below w.heap.size W7 W7.drew)) (Nat.le_refl _) u8 (Nat.le_refl _))); (have ct8 := tell_c h8); (rw [ET.out] at ct8); clear c7 hN7 u8) | (go_at_call 7; (with_reducible refine ct8.mono ?_); rintro e w9 ⟨rfl, b9⟩; clear ct8; (have hN9 := (b9.block B s8).trans hN8); (have c9 := fun i => cell_of_row w9 B i _ _ (0, 0) hN9); (have s9 := Nat.lt_of_lt_of_le s8 b9.size); (have b9' := hid (b8.out.trans (b9.mono b8.out.size))); clear c8 hN8 b9) | (go_at_call 12; (with_reducible refine (awake_c _).mono ?_); rintro e w10 ⟨rfl, b10⟩; (have c10 := fun i => cell_of_row w10 B i _ _ (0, 0) ((b10.block B s9).trans hN9)); (have b10' := hid (b9'.out.trans (b10.mono b9'.out.size))); clear c9 hN9 b10))
        go_wp2
        go_ret
        exact ⟨rfl, b10'.out⟩
set_option maxHeartbeats 1000000 in
theorem nought (n p : Int) (w : World) (n0 : 0 ≤ n) (n1 : n ≤ 100) : Calls Try.prog 5 #[.int .i64 0, .int .i64 n, .int .i64 p] w fun e w' => e = .returned (.bool true) ∧ Below w.heap.size w w' := by
  have cn := new_c 5 w
  have n0' : ¬ n < 0 := by omega
  have n1' : ¬ n > 100 := by omega
  go_enter Try.func5, Try.ntmps5
  go_wp2_with (first | (go_at_call 6; (with_reducible refine cn.mono ?_); rintro e w1 ⟨rfl, h1, b1, s1⟩; clear cn; (have cf := force_c h1 0); (rw [(fj_force 0 (by omega)).1, (fj_force 0 (by omega)).2] at cf); (have b1' := hid b1); clear b1 s1) | (go_at_call 8; (with_reducible refine cf.mono ?_); rintro e w2 ⟨rfl, h2, u2⟩; clear cf; (have b2 := hid (upd_bl b1'.out (Nat.le_refl _) u2 (Nat.le_refl _))); clear u2 h1; (have ct := tell_c h2); (rw [show told 5 (norm (fj 0 0)) = .agg #[.int .i64 5, .int .i64 0, .int .i64 0, .int .i64 0, .int .i64 0] from rfl] at ct)) | (go_at_call 7; (with_reducible refine ct.mono ?_); rintro e w3 ⟨rfl, b3⟩; clear ct))
  have h3 := h2.below b3
  have b3' := hid (b2.out.trans (b3.mono b2.out.size))
  clear h2 b2 b3 b1'
  go_loopw [8] (fun ii wr => ∃ j : Nat, j = 0 ∧ ii = .int .i64 (0 : Nat) ∧ SvS wr 43 w.heap.size 5 (norm (fj 0 0)) ∧ Below w.heap.size w wr) (fun ii _ => n.toNat - (intOf ii).toNat)
  case atStart => exact ⟨0, rfl, rfl, h3, b3'.out⟩
  case round =>
    obtain ⟨j, hj, rfl, hv, hB⟩ := hrel
    have HB := hid hB
    clear hB
    obtain rfl : j = 0 := by omega
    have n0'' : n0' = n0' := rfl
    clear n0''
    have ct := tell_c hv
    rw [show told 5 (norm (fj 0 0)) = .agg #[.int .i64 5, .int .i64 0, .int .i64 0, .int .i64 0, .int .i64 0] from rfl] at ct
    have Hj : Hid (((0 : Nat) : Int) + 1 ≤ 1000000000) := by show ((0 : Nat) : Int) + 1 ≤ 1000000000; omega
    have hc : (0 : Int) < n ∨ ¬ (0 : Int) < n := Classical.em _
    have hpp : (p == 0) = true ∨ (p == 0) = false := by cases (p == 0) <;> simp
    clear hj
    obtain ⟨e1, e2, e3, e4, e5⟩ := forced_end (s := fj 0 0) p (by simp [fj]) rfl
    have eT : told 5 (norm (onS (fj 0 0) p)) = .agg #[.int .i64 5, .int .i64 0, .int .i64 1, .int .i64 (0 : Nat), .int .i64 0] := by
      show Value.agg #[_, .int .i64 (onS (fj 0 0) p).form, .int .i64 (onS (fj 0 0) p).gen, .int .i64 (onS (fj 0 0) p).fast, .int .i64 (onS (fj 0 0) p).fails] = _
      rw [e2, e3, e4, e5]
      simp [fj]
    have hs : forceS (onS (fj 0 0) p) 3 = onS (fj 0 0) p := if_pos (by omega)
    have ET := hid eT
    have HS := hid hs
    have E1 := hid e1
    clear e1 e2 e3 e4 e5 eT hs h3 b3'
    rcases hc with hc | hc <;> rcases hpp with hpp | hpp
    all_goals (go_upto_region 16 with (go_at_call 7; (with_reducible refine ct.mono ?_); rintro e w3 ⟨rfl, b3⟩; clear ct))
    all_goals (have h4 := (hv.below b3).below ((Below.refl _ w3).alloc (Nat.le_refl _) (.cells #[.int .i64 5, .int .i64 0, .int .i64 0, .int .i64 (0 : Nat), .int .i64 0] 27)))
    all_goals (have hN := heap_alloc_new w3 (.cells #[.int .i64 5, .int .i64 0, .int .i64 0, .int .i64 (0 : Nat), .int .i64 0] 27))
    all_goals (have b4 := HB.out.trans (b3.mono HB.out.size))
    all_goals (have b4' := hid (b4.alloc b4.size (.cells #[.int .i64 5, .int .i64 0, .int .i64 0, .int .i64 (0 : Nat), .int .i64 0] 27)))
    all_goals (have hne : w.heap.size ≠ w3.heap.size := by have := hv.lt; have := b3.size; omega)
    all_goals (have hle : w.heap.size ≤ w3.heap.size := by have := hv.lt; have := b3.size; omega)
    all_goals (have hsz : w3.heap.size < (w3.alloc (.cells #[.int .i64 5, .int .i64 0, .int .i64 0, .int .i64 (0 : Nat), .int .i64 0] 27)).heap.size := by simp)
    all_goals (generalize w3.alloc (.cells #[.int .i64 5, .int .i64 0, .int .i64 0, .int .i64 (0 : Nat), .int .i64 0] 27) = W4 at *)
    all_goals (generalize w3.heap.size = B at *)
    all_goals (have Hne := hid hne)
    all_goals (have Hle : Hid (w.heap.size ≤ B) := hle)
    all_goals (have Hsz := hid hsz)
    all_goals (clear b3 b4 hv HB hne hsz hle)
    all_goals (have co := on_c (fj_ok 0 (by omega) 0) Hj.out h4 p)
    all_goals (rw [E1.out] at co)
    all_goals (go_upto_region 17 with (go_at_call 10; (with_reducible refine co.mono ?_); rintro e w5 ⟨rfl, h5, u5⟩; clear co))
    all_goals (have hN5 := (u5.block B Hsz.out (fun e => Hne.out e.symm)).trans hN)
    all_goals (have b5 := upd_bl b4'.out (Nat.le_refl _) u5 (Nat.le_refl _))
    all_goals (have s5 := Nat.lt_of_lt_of_le Hsz.out u5.size)
    all_goals (have ct5 := tell_c h5)
    all_goals (rw [ET.out] at ct5)
    all_goals (clear h4 hN b4' u5 Hsz)
    all_goals (go_upto_region 18 with (go_at_call 7; (with_reducible refine ct5.mono ?_); rintro e w6 ⟨rfl, b6⟩; clear ct5; (have hN6 := (b6.block B s5).trans hN5); (have c6 := fun i => cell_of_row w6 B i _ _ (0, 0) hN6); (have z6 : ∀ i, w6.frozen? ⟨B, i, none⟩ = false := fun i => by simp [World.frozen?, hN6])))
    all_goals (have h6 := h5.below b6)
    all_goals (have u7 := (((((Upd.refl (· = B) w6).one 0 (.int .i64 5)).one 1 (.int .i64 0)).one 2 (.int .i64 1)).one 3 (.int .i64 (0 : Nat))).one 4 (.int .i64 0))
    all_goals (have hN7 := five_set hN6 (.int .i64 5) (.int .i64 0) (.int .i64 1) (.int .i64 (0 : Nat)) (.int .i64 0))
    all_goals (have b6' := b5.trans (b6.mono b5.size))
    all_goals (have s7 := Nat.lt_of_lt_of_le s5 (Nat.le_trans b6.size u7.size))
    all_goals (have hlB : w.heap.size ≤ B := by have := Hle.out; omega)
    all_goals (have b7 := hid (upd_bl b6' (Nat.le_refl _) u7 hlB))
    all_goals (have h7 := h6.on (u7.block _ h6.lt Hne.out))
    all_goals (generalize World.setCell (World.setCell (World.setCell (World.setCell (World.setCell w6 _ _) _ _) _ _) _ _) _ _ = W7 at *)
    all_goals (clear h5 hN5 b5 s5 c6 z6 hN6 h6 u7 b6 b6' hlB Hle)
    all_goals (have cf := force_c (W := W7.drew) (show SvS W7.drew 43 w.heap.size 5 (norm (onS (fj 0 0) p)) from h7) 3)
    all_goals (rw [HS.out, show forceA 3 = 1 from rfl] at cf)
    all_goals (have c7 := fun i => cell_of_row W7 B i _ _ (0, 0) hN7)
    all_goals (go_upto_region 21 with fail)
    all_goals (go_region_held3 (fun w' => ∀ i, w'.cell? ⟨B, i, none⟩ = #[Value.int .i64 5, .int .i64 0, .int .i64 1, .int .i64 (0 : Nat), .int .i64 0][i]?) (first | exact c7 | exact c8 | exact c9 | exact c10) (first | (go_at_call 8; (with_reducible refine cf.mono ?_); rintro e w8 ⟨rfl, h8, u8⟩; clear cf; (have hN8 := (u8.block B s7 (fun e => Hne.out e.symm)).trans hN7); (have c8 := fun i => cell_of_row w8 B i _ _ (0, 0) hN8); (have s8 := Nat.lt_of_lt_of_le s7 u8.size); (have b8 := hid (upd_bl (b7.out.trans (⟨rfl, rfl, rfl, Nat.le_refl _, fun _ _ => rfl⟩ : Below w.heap.size W7 W7.drew)) (Nat.le_refl _) u8 (Nat.le_refl _))); (have ct8 := tell_c h8); (rw [ET.out] at ct8); clear c7 hN7 u8) | (go_at_call 7; (with_reducible refine ct8.mono ?_); rintro e w9 ⟨rfl, b9⟩; clear ct8; (have hN9 := (b9.block B s8).trans hN8); (have c9 := fun i => cell_of_row w9 B i _ _ (0, 0) hN9); (have s9 := Nat.lt_of_lt_of_le s8 b9.size); (have b9' := hid (b8.out.trans (b9.mono b8.out.size))); clear c8 hN8 b9) | (go_at_call 12; (with_reducible refine (awake_c _).mono ?_); rintro e w10 ⟨rfl, b10⟩; (have c10 := fun i => cell_of_row w10 B i _ _ (0, 0) ((b10.block B s9).trans hN9)); (have b10' := hid (b9'.out.trans (b10.mono b9'.out.size))); clear c9 hN9 b10)))
    all_goals (go_wp2)
    all_goals (go_ret)
    all_goals (exact ⟨rfl, b10'.out⟩)
end Sf
theorem siteForced_walk (f : Int) (x0 : (Lit.int .i64 f).wf = true) (n : Int) (x1 : (Lit.int .i64 n).wf = true) (p : Int) (x2 : (Lit.int .i64 p).wf = true) (w : World) : Calls Try.prog 5 #[.int .i64 f, .int .i64 n, .int .i64 p] w fun e w' => e = .returned (.bool true) ∧ Below w.heap.size w w' := by
  by_cases h : f < 0 ∨ 2 < f ∨ n < 0 ∨ 100 < n
  · exact Sf.bad f n p w h
  · have hf : f = 0 ∨ f = 1 ∨ f = 2 := by omega
    rcases hf with e | e | e <;> subst e
    · exact Sf.nought n p w (by omega) (by omega)
    · exact Sf.one n p w (by omega) (by omega)
    · exact Sf.two n p w (by omega) (by omega)
end Go.Proofs.Ytalcfblknoojpaa.W
