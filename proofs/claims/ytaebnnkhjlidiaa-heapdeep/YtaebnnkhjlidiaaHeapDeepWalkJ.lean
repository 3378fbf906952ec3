import Derived.Test.YtaebnnkhjlidiaaBase7
import Derived.Test.YtaebnnkhjlidiaaBase8
/- HeapDeep: the walk. -/
namespace Go.Proofs.Ytaebnnkhjlidiaa.W
open Go.ChangeShapes Go.WideShapes Go.RowKit Go.Shelf
set_option linter.unusedVariables false
section
variable {W0 W W1 W' : World} {hb : Nat} {H : List (Option Hc)} {u : Nat}
theorem deep_step (n j : Nat) (hn : n ≤ 30000) (hj : j < n) (q : Hs W0 W hb (chain j) (2 * n + 3)) :
    Calls Try.prog 12 #[.pointer (some ⟨hb, 0, none⟩), .agg #[.int .i64 9, .bool false, .int .i64 0, .string ⟨#[]⟩, .slice none 0 0, .slice (some ⟨W.heap.size, 0, none⟩) 1 1, .int .u64 0, .int .i64 0, .int .i64 0], .slice (some ⟨W.heap.size + 1, 0, none⟩) 1 1] ((W.alloc (.cells #[.int .u64 (endW j : Nat)] 24)).alloc (.cells #[.int .u64 (endW j : Nat)] 24)) fun e w' => e = .returned (.tuple #[.int .u64 (endW (j + 1) : Nat), .int .i64 0]) ∧ Hs W0 w' hb (chain (j + 1)) (2 * n + 3) := by
  have hB1 : Below W.heap.size W (W.alloc (.cells #[.int .u64 (endW j : Nat)] 24)) := (Below.refl _ W).alloc (Nat.le_refl _) _
  have hs1 : (W.alloc (.cells #[.int .u64 (endW j : Nat)] 24)).heap.size = W.heap.size + 1 := World.size_alloc ..
  have hB2 : Below (W.alloc (.cells #[.int .u64 (endW j : Nat)] 24)).heap.size (W.alloc (.cells #[.int .u64 (endW j : Nat)] 24)) ((W.alloc (.cells #[.int .u64 (endW j : Nat)] 24)).alloc (.cells #[.int .u64 (endW j : Nat)] 24)) := (Below.refl _ _).alloc (Nat.le_refl _) _
  have hs2 : (((W.alloc (.cells #[.int .u64 (endW j : Nat)] 24)).alloc (.cells #[.int .u64 (endW j : Nat)] 24))).heap.size = W.heap.size + 2 := by rw [World.size_alloc, hs1]
  have hB : Below W.heap.size W ((W.alloc (.cells #[.int .u64 (endW j : Nat)] 24)).alloc (.cells #[.int .u64 (endW j : Nat)] 24)) := hB1.trans (hB2.mono hB1.size)
  have h64 : ∀ w ∈ [endW j], w < 18446744073709551616 := by
    intro w hw
    rw [List.mem_singleton.1 hw]; exact endW_lt j (by omega)
  have hw := words_below (words_new W [endW j] _ h64 (by simp) rfl 24) hB2
  have hr := words_new (W.alloc (.cells #[.int .u64 (endW j : Nat)] 24)) [endW j] _ h64 (by simp) rfl 24
  rw [hs1] at hr
  refine (hs_row q hB [endW j] (by simp) h64 ?_ (some ⟨W.heap.size, 0, none⟩) 1 hw ?_ _ _ hr).mono ?_
  · intro w hw
    rw [List.mem_singleton.1 hw]; exact chain_val j (by omega)
  · intro x e
    cases e
    exact ⟨Nat.le_refl _, by rw [hs2]; show W.heap.size < _; omega⟩
  · intro e w' h
    obtain ⟨h1, h2⟩ := h.fits (by rw [chain_sum, row_need]; simp; omega)
    rw [chain_put] at h2
    rw [chain_lid] at h1
    exact ⟨h1, h2⟩
theorem deep_reach (n : Nat) (hn : n ≤ 30000) (q : Hs W0 W hb (chain n) u) :
    Calls Try.prog 13 #[.pointer (some ⟨hb, 0, none⟩), .slice (some ⟨W.heap.size, 0, none⟩) 1 1] (W.alloc (.cells #[.int .u64 (endW n : Nat)] 24)) fun e w' => e = .returned (.int .i64 (2 * (n : Int))) ∧ Hs W0 w' hb (chain n) u := by
  have hB1 : Below W.heap.size W (W.alloc (.cells #[.int .u64 (endW n : Nat)] 24)) := (Below.refl _ W).alloc (Nat.le_refl _) _
  have h64 : ∀ w ∈ [endW n], w < 18446744073709551616 := by
    intro w hw
    rw [List.mem_singleton.1 hw]; exact endW_lt n (by omega)
  have := hs_reach q hB1 _ _ (words_new W [endW n] _ h64 (by simp) rfl 24)
  rw [chain_reach n (by omega), show ((2 * n : Nat) : Int) = 2 * (n : Int) by omega] at this
  exact this
theorem deep_three (n : Nat) (hn : n ≤ 30000) (q : Hs W0 W hb (chain n) (2 * n + 3)) (hB : Below W.heap.size W W1) (hl : W.heap.size < W1.heap.size) (hw : WordsAt W1 (.slice (some ⟨W.heap.size, 0, none⟩) 3 3) (List.replicate 3 0)) :
    Calls Try.prog 12 #[.pointer (some ⟨hb, 0, none⟩), .agg #[.int .i64 9, .bool false, .int .i64 0, .string ⟨#[]⟩, .slice none 0 0, .slice (some ⟨W.heap.size, 0, none⟩) 3 3, .int .u64 0, .int .i64 0, .int .i64 0], .slice (some ⟨W1.heap.size, 0, none⟩) 1 1] (W1.alloc (.cells #[.int .u64 (endW n : Nat)] 24)) fun e w' => e = .returned (.tuple #[.int .u64 0, .int .i64 40]) ∧ Hs W0 w' hb (chain n) (2 * n + 3) := by
  have hB1 : Below W1.heap.size W1 (W1.alloc (.cells #[.int .u64 (endW n : Nat)] 24)) := (Below.refl _ W1).alloc (Nat.le_refl _) _
  have hs1 : (W1.alloc (.cells #[.int .u64 (endW n : Nat)] 24)).heap.size = W1.heap.size + 1 := World.size_alloc ..
  have h64 : ∀ w ∈ [endW n], w < 18446744073709551616 := by
    intro w hw
    rw [List.mem_singleton.1 hw]; exact endW_lt n (by omega)
  have hr := words_new W1 [endW n] _ h64 (by simp) rfl 24
  have hw' := words_below hw hB1
  refine (hs_row q (hB.trans (hB1.mono hB.size)) (List.replicate 3 0) (by simp) (by simp) ?_ (some ⟨W.heap.size, 0, none⟩) 3 hw' ?_ _ _ hr).mono ?_
  · intro w hw
    rw [(List.mem_replicate.1 hw).2]; exact isVal_zero _
  · intro x e
    cases e
    exact ⟨Nat.le_refl _, by rw [hs1]; show W.heap.size < _; omega⟩
  · intro e w' h
    have er : roomH (chain n) (2 * n + 3) (.row (List.replicate 3 0)) [endW n] = chain n := by
      unfold roomH
      rw [chain_sum, row_need, if_neg (by simp)]
      exact chain_zip n (by omega) _
    rw [er] at h
    exact h.not (by rw [chain_sum, row_need]; simp)
theorem deep_last (n : Nat) (hn : n ≤ 30000) (h0 : 0 < n) (q : Hs W0 W hb (chain n) (2 * n + 3)) (hB : Below W.heap.size W W1) (hl : W.heap.size < W1.heap.size) (m : Nat) (hm : m = 2 * n + 2) (hw : WordsAt W1 (.slice (some ⟨W.heap.size, 0, none⟩) m m) (List.replicate m 0)) :
    Calls Try.prog 12 #[.pointer (some ⟨hb, 0, none⟩), .agg #[.int .i64 9, .bool false, .int .i64 0, .string ⟨#[]⟩, .slice none 0 0, .slice (some ⟨W.heap.size, 0, none⟩) m m, .int .u64 0, .int .i64 0, .int .i64 0], .slice none 0 0] W1 fun e w' => ∃ x H', e = .returned (.tuple #[.int .u64 x, .int .i64 0]) ∧ Hs W0 w' hb H' (2 * n + 3) := by
  have hc := hs_row q hB (List.replicate m 0) (by rw [List.length_replicate]; omega) (fun w hw => by rw [(List.mem_replicate.1 hw).2]; decide) (fun w hw => by rw [(List.mem_replicate.1 hw).2]; exact isVal_zero _) (some ⟨W.heap.size, 0, none⟩) m (by rw [List.length_replicate]; exact hw) (fun x e => by cases e; exact ⟨Nat.le_refl _, hl⟩) (.slice none 0 0) [] (words_nil W1 _ _)
  rw [List.length_replicate] at hc
  refine hc.mono ?_
  intro e w' h
  have er : roomH (chain n) (2 * n + 3) (.row (List.replicate m 0)) [] = List.replicate n none := by
    unfold roomH
    rw [chain_sum, row_need, List.length_replicate, if_neg (by omega), zip_none, chain_len]
    intro w hw
    have : w = 0 := by
      simp [Hc.seeds, Hc.ws, Hc.cl] at hw
      rcases hw with e | e
      · exact e.2
      · exact e
    rw [this]; exact hit_zero _
  rw [er] at h
  obtain ⟨h1, h2⟩ := h.yes (by rw [sum_none, row_need, List.length_replicate]; omega)
  exact ⟨_, _, h1, h2⟩
theorem deep_any (n : Nat) (hn : n ≤ 30000) (q : Hs W0 W hb H u) :
    Calls Try.prog 13 #[.pointer (some ⟨hb, 0, none⟩), .slice (some ⟨W.heap.size, 0, none⟩) 1 1] (W.alloc (.cells #[.int .u64 (endW n : Nat)] 24)) fun e w' => ∃ z : Int, e = .returned (.int .i64 z) ∧ 0 ≤ z ∧ Hs W0 w' hb H u := by
  have hB1 : Below W.heap.size W (W.alloc (.cells #[.int .u64 (endW n : Nat)] 24)) := (Below.refl _ W).alloc (Nat.le_refl _) _
  have h64 : ∀ w ∈ [endW n], w < 18446744073709551616 := by
    intro w hw
    rw [List.mem_singleton.1 hw]; exact endW_lt n (by omega)
  refine (hs_reach q hB1 _ _ (words_new W [endW n] _ h64 (by simp) rfl 24)).mono ?_
  rintro e w' ⟨rfl, q'⟩
  exact ⟨_, rfl, by omega, q'⟩
end
theorem heapDeep_walk (n : Int) (wn : (Lit.int .i64 n).wf = true) (w : World) :
    Calls Try.prog 7 #[.int .i64 n] w fun e w' => e = .returned (.bool true) ∧ Below w.heap.size w w' := by
  by_cases h1 : n < 1
  · go_enter Try.func7, Try.ntmps7
    go_wp2
    go_ret
    exact ⟨rfl, Below.refl _ _⟩
  by_cases h2 : n > 30000
  · go_enter Try.func7, Try.ntmps7
    go_wp2
    go_ret
    exact ⟨rfl, Below.refl _ _⟩
  obtain ⟨m, rfl⟩ : ∃ m : Nat, n = m := ⟨n.toNat, by omega⟩
  have hm : m ≤ 30000 := by omega
  have hm0 : 0 < m := by omega
  have e2 : IntKind.i64.wrap (2 * (m : Int)) = 2 * (m : Int) := by rw [IntKind.wrap_i64]; omega
  have e3 : IntKind.i64.wrap (2 * (m : Int) + 3) = 2 * (m : Int) + 3 := by rw [IntKind.wrap_i64]; omega
  have e4 : IntKind.i64.wrap (2 * (m : Int) + 2) = 2 * (m : Int) + 2 := by rw [IntKind.wrap_i64]; omega
  have cn := hs_new (Below.refl w.heap.size w) (2 * m + 3) (by omega)
  rw [show ((2 * m + 3 : Nat) : Int) = 2 * (m : Int) + 3 by omega] at cn
  go_enter Try.func7, Try.ntmps7
  go_wp2_with (go_at_call 11; (with_reducible refine cn.mono ?_); rintro e W1 ⟨hb, rfl, q1⟩; clear cn)
  go_loopw [5, 6] (fun ee ii wr => ∃ j : Nat, j ≤ m ∧ ee = .int .u64 (endW j : Nat) ∧ ii = .int .i64 j ∧ Hs w wr hb (chain j) (2 * m + 3)) (fun _ ii _ => m - (intOf ii).toNat)
  case atStart => exact ⟨0, Nat.zero_le _, rfl, rfl, q1⟩
  case round =>
    clear q1
    obtain ⟨j, hj, rfl, rfl, q⟩ := hrel
    have w1 : IntKind.i64.wrap ((j : Int) + 1) = (j : Int) + 1 := by rw [IntKind.wrap_i64]; omega
    by_cases hlt : j < m
    · have cp := deep_step m j hm hlt q
      have j1 : (j : Int) < m := by omega
      generalize endW j = ej at *
      generalize hej : endW (j + 1) = ej1 at *
      clear q
      go_wp2_with (go_at_call 12; (with_reducible refine cp.mono ?_); rintro e w2 ⟨rfl, q2⟩; clear cp)
      go_roundw
      case rel => exact ⟨j + 1, hlt, by rw [hej], by go_num, q2⟩
      case measure => show m - (j + 1 : Int).toNat < m - (j : Int).toNat; omega
    · have he : j = m := by omega
      subst he
      have j1 : ¬ (j : Int) < j := by omega
      have cr := deep_reach j hm q
      have q0 := hid q
      clear q
      go_upto_region 16 with (go_at_call 13; (with_reducible refine cr.mono ?_); rintro e W2 ⟨rfl, q2⟩; clear cr)
      obtain ⟨Wm, hmk, hws, hBm, hlm⟩ := make_words W2 3 (by decide)
      rw [show ((3 : Nat) : Int) = 3 from rfl] at hmk
      have c3 := deep_three j hm q2 hBm hlm hws
      go_upto_region 19 with (go_at_call 12; (with_reducible refine c3.mono ?_); rintro e W3 ⟨rfl, q3⟩; clear c3 hmk)
      obtain ⟨Wn, hmn, hwn, hBn, hln⟩ := make_words W3 (2 * j + 2) (by omega)
      rw [show ((2 * j + 2 : Nat) : Int) = 2 * (j : Int) + 2 by omega] at hmn
      have c4 := deep_last j hm hm0 q3 hBn hln (2 * j + 2) rfl hwn
      go_upto_region 20 with (go_at_call 12; (with_reducible refine c4.mono ?_); rintro e W4 ⟨x4, H4, rfl, q4⟩; clear c4 hmn)
      have c5 := deep_any j hm q4
      clear q2 q3 hws hwn hBm hBn
      go_wp2_with (first | (go_at_call 13; (with_reducible refine c5.mono ?_); rintro e W5 ⟨z, rfl, hz, q5⟩; clear c5) | (go_at_call 10; (with_reducible refine (awake6_c _).mono ?_); rintro e W6 ⟨rfl, hB6⟩))
      go_ret
      exact ⟨rfl, q5.1.trans (hB6.mono q5.1.size)⟩
end Go.Proofs.Ytaebnnkhjlidiaa.W
