import Derived.Test.YtaebnnkhjlidiaaHvAJ
/- HeapViews: a byte is written beyond the view. -/
namespace Go.Proofs.Ytaebnnkhjlidiaa.W
open Go.ChangeShapes Go.WideShapes Go.RowKit Go.Shelf
set_option linter.unusedVariables false
set_option maxRecDepth 100000 in
set_option maxHeartbeats 2000000 in
theorem hv_hi (s f m y : Nat) (off : Int) (h300 : s ≤ 300) (hfm : f + m ≤ s) (hy : y < 256) (hoff : -9223372036854775808 ≤ off ∧ off ≤ 9223372036854775807) (g0 : off ≥ 0) (g1 : ¬ off < (m : Int)) (w : World) : Calls Try.prog 6 #[.int .i64 s, .int .i64 f, .int .i64 m, .int .i64 off, .int .u8 y] w fun e w' => e = .returned (.bool true) ∧ Below w.heap.size w w' := by
  have H300 := hid h300
  have HFM := hid hfm
  have HX : Hid (0 ≤ (y : Int) ∧ (y : Int) ≤ 255) := hid (by omega)
  have a1 : ¬ (s : Int) < 0 := by omega
  have a2 : ¬ (s : Int) > 300 := by omega
  have a3 : ¬ (f : Int) < 0 := by omega
  have a4 : ¬ (f : Int) > s := by omega
  have a5 : ¬ (m : Int) < 0 := by omega
  have ws : IntKind.i64.wrap ((s : Int) - f) = (s : Int) - f := by rw [IntKind.wrap_i64]; omega
  have a6 : ¬ (m : Int) > (s : Int) - f := by omega
  have HO := hid hoff
  have hno : Hid (¬ (0 ≤ off ∧ off + ((1 : Nat) : Int) ≤ (m : Nat))) := hid (by omega)
  have cn := hf_new (Below.refl w.heap.size w) 200 (by decide)
  rw [show ((200 : Nat) : Int) = 200 from rfl] at cn
  go_enter Try.func6, Try.ntmps6
  go_upto_region 6 with (go_at_call 11; (with_reducible refine cn.mono ?_); rintro e W1 ⟨hb, rfl, q1, hB1⟩; clear cn)
  obtain ⟨Wm, hmk, hrow, hBm, hlm⟩ := made_bytes W1 s (by omega)
  have c1 := hf_blank q1 hBm 8 (by decide) s (by omega) (by show s % 1 = 0; omega) W1.heap.size (Nat.le_refl _) hlm hrow (by show 0 + (1 + (s + 7) / 8) ≤ 200; omega) (.slice none 0 0) [] (words_nil Wm _ _)
  rw [show hw (lid []) = hw 0 from rfl] at c1
  have e1 : putH [] (lid []) (some (.buf 8 (List.replicate s 0))) = [some (.buf 8 (List.replicate s 0))] := rfl
  rw [e1] at c1
  have hr1 := fun (W : World) => words_new W [hw 0] _ (by intro w hw; rw [List.mem_singleton.1 hw]; exact hw_lt 0 (by decide)) (by simp) rfl 24
  have hr2 := fun (W : World) => words_new W [hw 1] _ (by intro w hw; rw [List.mem_singleton.1 hw]; exact hw_lt 1 (by decide)) (by simp) rfl 24
  clear hfm h300 a1 a2 a3 a4 a5 a6
  generalize h0 : hw 0 = b0 at c1
  go_upto_region 7 with (go_at_call 12; (with_reducible refine c1.mono ?_); rintro e W2 ⟨rfl, q2, u2⟩; clear c1 hmk)
  subst h0
  have hA2 : Below W2.heap.size W2 (W2.alloc (.cells #[.int .u64 (hw 0 : Nat)] 24)) := (Below.refl _ W2).alloc (Nat.le_refl _) _
  have c2 := hf_view (q2.below' hA2) 8 (by decide) (hw 0) f m (hw_lt 0 (by decide)) 0 (hit_hw (by decide) (show [some (Hc.buf 8 (List.replicate s 0))][0]? = _ from rfl)) 8 (List.replicate s 0) rfl (by rw [List.length_replicate]; have := HFM.out; omega) (by show f % 1 = 0; omega) (by rw [List.length_replicate]; show m ≤ (s - f) / 1; have := HFM.out; omega) (by show (Hc.buf 8 (List.replicate s 0)).need + 0 + 1 ≤ 200; rw [bufn_need, List.length_replicate]; have := H300.out; omega) (.slice (some ⟨W2.heap.size, 0, none⟩) 1 1) [hw 0] (hr1 W2)
  rw [show hw (lid [some (Hc.buf 8 (List.replicate s 0))]) = hw 1 from rfl, show putH [some (Hc.buf 8 (List.replicate s 0))] (lid [some (Hc.buf 8 (List.replicate s 0))]) (some (.view 8 (hw 0) f m)) = hvH (List.replicate s 0) f m from rfl] at c2
  generalize h0 : hw 0 = b0 at c2 ⊢
  generalize h1 : hw 1 = b1 at c2
  go_upto_region 10 with (go_at_call 12; (with_reducible refine c2.mono ?_); rintro e W3 ⟨rfl, q3, u3⟩; clear c2)
  have hA3 : Below W3.heap.size W3 (W3.alloc (.cells #[.int .u64 (b1 : Nat)] 24)) := (Below.refl _ W3).alloc (Nat.le_refl _) _
  have c3 := hf_collect (q3.below' hA3) (.slice (some ⟨W3.heap.size, 0, none⟩) 1 1) [b1] (by rw [← h1]; exact hr2 W3) (by rw [← h1]; exact hv_rch _ _ _)
  go_upto_region 11 with (go_at_call 16; (with_reducible refine c3.mono ?_); rintro e W4 ⟨rfl, q4, u4⟩; clear c3)
  have c4 := get_b q4 (s := s) List.length_replicate
  rw [h0] at c4
  go_upto_region 12 with (go_at_call 14; (with_reducible refine c4.mono ?_); rintro e W5 ⟨gb, rfl, hgb, hB5, ho5⟩; clear c4)
  have hB6 : Below W5.heap.size W5 (W5.alloc (.cells #[.int .i64 8, .bool false, .int .i64 0, .string ⟨#[]⟩, .slice (some ⟨gb, 0, none⟩) s s, .slice none 0 0, .int .u64 0, .int .i64 0, .int .i64 0] 26)) := (Below.refl _ W5).alloc (Nat.le_refl _) _
  have e6 := World.cell?_alloc_new W5 #[.int .i64 8, .bool false, .int .i64 0, .string ⟨#[]⟩, .slice (some ⟨gb, 0, none⟩) s s, .slice none 0 0, .int .u64 0, .int .i64 0, .int .i64 0] 26
  have f6 := World.alloc_heap_new W5 (.cells #[.int .i64 8, .bool false, .int .i64 0, .string ⟨#[]⟩, .slice (some ⟨gb, 0, none⟩) s s, .slice none 0 0, .int .u64 0, .int .i64 0, .int .i64 0] 26)
  have z6 : (W5.alloc (.cells #[.int .i64 8, .bool false, .int .i64 0, .string ⟨#[]⟩, .slice (some ⟨gb, 0, none⟩) s s, .slice none 0 0, .int .u64 0, .int .i64 0, .int .i64 0] 26)).heap.size = W5.heap.size + 1 := World.size_alloc ..
  have q6 := (q4.below' hB5).below hB6
  generalize W5.alloc (.cells #[.int .i64 8, .bool false, .int .i64 0, .string ⟨#[]⟩, .slice (some ⟨gb, 0, none⟩) s s, .slice none 0 0, .int .u64 0, .int .i64 0, .int .i64 0] 26) = W6 at *
  generalize hB17 : W5.heap.size = B17 at *
  have d4 := e6 4
  simp only [List.getElem?_toArray, List.getElem?_cons_succ, List.getElem?_cons_zero] at d4
  have hA6 : Below W6.heap.size W6 (W6.alloc (.cells #[.int .u64 (b1 : Nat)] 24)) := (Below.refl _ W6).alloc (Nat.le_refl _) _
  have c5 := hf_reach (q6.below' hA6) (.slice (some ⟨W6.heap.size, 0, none⟩) 1 1) [b1] (by rw [← h1]; exact hr2 W6)
  rw [← h1, reach_all (hv_rch _ _ _), hv_sum, List.length_replicate, h1] at c5
  obtain ⟨r1, r1', r2, r3, r3', r4, r4'⟩ := hv_ar s H300.out
  generalize (s + 7) / 8 = u8 at *
  generalize hR : 2 + u8 = RR at *
  have Q6 := hid q6
  have BW : Hid (w.heap.size ≤ B17) := hid (by have := q4.bel.size; have := hB5.size; omega)
  have F6 := hid f6
  have Z6 := hid z6
  clear q1 q2 q3 q4 q6 u2 u3 u4 hA2 hA3 hB5 hB6 ho5 e6 f6 hrow hBm hB1 hR z6 hgb
  go_upto_region 14 with (go_at_call 13; (with_reducible refine c5.mono ?_); rintro e W7 ⟨rfl, hB7⟩; clear c5)
  clear r1 r1' r2 r3 r3' r4 r4'
  have hB67 := hA6.trans (hB7.mono hA6.size)
  have q7 := Q6.out.below' hB67
  have f7 : W7.heap[B17]? = some (.cells #[.int .i64 8, .bool false, .int .i64 0, .string ⟨#[]⟩, .slice (some ⟨gb, 0, none⟩) s s, .slice none 0 0, .int .u64 0, .int .i64 0, .int .i64 0] 26) := (hB67.block B17 (by have := Z6.out; omega)).trans F6.out
  have hyw := hv_wy HX.out
  clear hA6 hB7 hB67 d4
  have hs := hv_spot (List.replicate s 0) f m (by rw [List.length_replicate]; exact HFM.out)
  rw [h1] at hs
  obtain ⟨sb7, vc7, T7, l7⟩ := q7.lay
  have c6 := hwrite_out l7 hs 1 (.inl rfl) off HO.out.1 HO.out.2 hno.out (y : Int)
  rw [show ((1 : Nat) : Int) = 1 from rfl] at c6
  have hby : Hid (∀ j, j < s → (List.replicate s 0)[j]? = some 0) := hid (fun j hj => by rw [List.getElem?_replicate, if_pos hj])
  have hln : Hid ((List.replicate s 0).length = s) := hid List.length_replicate
  clear l7 hs
  generalize List.replicate s 0 = bs at *
  skip
  go_upto_region 17 with (go_at_call 18; (with_reducible refine c6.mono ?_); rintro e W8 ⟨rfl, hB8⟩; clear c6)
  have q8 := q7.below' hB8
  have f8 : W8.heap[B17]? = some (.cells #[.int .i64 8, .bool false, .int .i64 0, .string ⟨#[]⟩, .slice (some ⟨gb, 0, none⟩) s s, .slice none 0 0, .int .u64 0, .int .i64 0, .int .i64 0] 26) := (hB8.block B17 (lt_get f7)).trans f7
  clear q7 f7 hB8
  have c7 := get_b q8 hln.out
  rw [h0] at c7
  have e8 := fun j => cell_of_row W8 B17 j _ _ _ f8
  have HB8 := hid q8.bel
  have hwlt := BW
  have kp : Hid (∀ W9, Below W8.heap.size W8 W9 → W9.heap[B17]? = some (.cells #[.int .i64 8, .bool false, .int .i64 0, .string ⟨#[]⟩, .slice (some ⟨gb, 0, none⟩) s s, .slice none 0 0, .int .u64 0, .int .i64 0, .int .i64 0] 26) ∧ Below w.heap.size w W9) := by
    show ∀ W9, _
    intro W9 hB9
    exact ⟨(hB9.block B17 (lt_get f8)).trans f8, HB8.out.trans (hB9.mono HB8.out.size)⟩
  have HF8 := hid (lt_get f8)
  clear q8 f8 e8
  go_upto_region 18 with (go_at_call 14; (with_reducible refine c7.mono ?_); rintro e W9 ⟨gc, rfl, hgc, hB9, ho9⟩; clear c7; (obtain ⟨f9, hB9w⟩ := kp.out W9 hB9); (have e9 := fun j => cell_of_row W9 B17 j _ _ _ f9); (have z9 := (fun j => by simp [World.frozen?, f9] : ∀ j, W9.frozen? ⟨B17, j, none⟩ = false)); (have F9 := hid f9); (have G9 := hid hgc); clear f9 hgc hB9)
  have f10 := nine_set F9.out (.int .i64 8) (.bool false) (.int .i64 0) (.string ⟨#[]⟩) (.slice (some ⟨gc, 0, none⟩) s s) (.slice none 0 0) (.int .u64 0) (.int .i64 0) (.int .i64 0)
  have b10 := nine_below hB9w hwlt.out (.int .i64 8) (.bool false) (.int .i64 0) (.string ⟨#[]⟩) (.slice (some ⟨gc, 0, none⟩) s s) (.slice none 0 0) (.int .u64 0) (.int .i64 0) (.int .i64 0)
  have n10 := nine_far W9 B17 (.int .i64 8) (.bool false) (.int .i64 0) (.string ⟨#[]⟩) (.slice (some ⟨gc, 0, none⟩) s s) (.slice none 0 0) (.int .u64 0) (.int .i64 0) (.int .i64 0) gc (by have := G9.out; have := HF8.out; omega)
  have o10 := owns_on (W' := (((((((((W9.setCell ⟨B17, 0, none⟩ (.int .i64 8)).setCell ⟨B17, 1, none⟩ (.bool false)).setCell ⟨B17, 2, none⟩ (.int .i64 0)).setCell ⟨B17, 3, none⟩ (.string ⟨#[]⟩)).setCell ⟨B17, 4, none⟩ (.slice (some ⟨gc, 0, none⟩) s s)).setCell ⟨B17, 5, none⟩ (.slice none 0 0)).setCell ⟨B17, 6, none⟩ (.int .u64 0)).setCell ⟨B17, 7, none⟩ (.int .i64 0)).setCell ⟨B17, 8, none⟩ (.int .i64 0))) ho9 (fun k e => by cases e; exact n10)
  generalize (((((((((W9.setCell ⟨B17, 0, none⟩ (.int .i64 8)).setCell ⟨B17, 1, none⟩ (.bool false)).setCell ⟨B17, 2, none⟩ (.int .i64 0)).setCell ⟨B17, 3, none⟩ (.string ⟨#[]⟩)).setCell ⟨B17, 4, none⟩ (.slice (some ⟨gc, 0, none⟩) s s)).setCell ⟨B17, 5, none⟩ (.slice none 0 0)).setCell ⟨B17, 6, none⟩ (.int .u64 0)).setCell ⟨B17, 7, none⟩ (.int .i64 0)).setCell ⟨B17, 8, none⟩ (.int .i64 0)) = WE at *
  have eE := fun j => cell_of_row WE B17 j _ _ _ f10
  have t4 := eE 4
  simp only [List.getElem?_toArray, List.getElem?_cons_succ, List.getElem?_cons_zero] at t4
  have rd : Hid (∀ j, j < s → ∃ v : Nat, bs[j]? = some v ∧ WE.cell? ⟨gc, j, none⟩ = some (.int .u8 v)) := by
    show ∀ j, _
    intro j hj
    have hb := bs[j]'(by rw [hln.out]; exact hj)
    refine ⟨bs[j]'(by rw [hln.out]; exact hj), List.getElem?_eq_getElem _, ?_⟩
    have := own_at o10 j (byteV (bs[j]'(by rw [hln.out]; exact hj))) (by rw [List.getElem?_map, List.getElem?_eq_getElem (by rw [hln.out]; exact hj)]; rfl)
    exact this
  have HBE := hid b10
  clear eE e9 z9 f10 b10 n10 o10 ho9 hB9w kp
  go_wp2
  go_loop [20, 21] (fun ii _ => ∃ j : Nat, j ≤ s ∧ ii = .int .i64 j) (fun ii _ => s - (intOf ii).toNat)
  case atStart => exact ⟨0, Nat.zero_le _, rfl⟩
  case round =>
    obtain ⟨j, hj, rfl⟩ := hrel
    have w1 := hv_succ hj H300.out
    by_cases hlt : j < s
    · obtain ⟨v, hv, hcv⟩ := rd.out j hlt
      have j0 := (hv_lt hlt).1
      have j1 := (hv_lt hlt).2
      have hvv := hby.out j hlt
      rw [hv] at hvv
      clear hv
      simp at hvv
      subst hvv
      clear rd
      go_wp2
      go_round
      case rel => exact ⟨j + 1, hlt, by go_num⟩
      case measure => exact hv_meas hlt
    · have j1 := hv_nlt hlt
      clear rd
      go_wp2_with (go_at_call 10; (with_reducible refine (awake6_c _).mono ?_); rintro e WF ⟨rfl, hBF⟩)
      go_ret
      exact ⟨rfl, HBE.out.trans (hBF.mono HBE.out.size)⟩
end Go.Proofs.Ytaebnnkhjlidiaa.W
