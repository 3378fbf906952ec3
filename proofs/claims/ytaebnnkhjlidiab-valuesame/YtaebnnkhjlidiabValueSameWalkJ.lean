import Derived.Test.YtaebnnkhjlidiabVs4J
import Derived.Test.YtaebnnkhjlidiabBase24
import Derived.Test.YtaebnnkhjlidiabCellOpenJ
/- ValueSame: the walk. -/
namespace Go.Proofs.Ytaebnnkhjlidiab.W
open Go.ChangeShapes Go.WideShapes Go.RowKit Go.Shelf
set_option linter.unusedVariables false
set_option linter.unusedSimpArgs false
theorem vs_list (i j bits : Int) (s t : ByteArray) (hi : -9223372036854775808 ≤ i ∧ i ≤ 9223372036854775807) (hj : -9223372036854775808 ≤ j ∧ j ≤ 9223372036854775807) (hb : 0 ≤ bits ∧ bits < 18446744073709551616) (hs : s.size ≤ 1000) (ht : t.size ≤ 1000) : ∃ xs : List Pl, (flatV xs).toArray = #[.int .i64 2, .int .i64 i, .int .u64 0, .string ⟨#[]⟩, .int .u64 0, .int .i64 2, .int .i64 j, .int .u64 0, .string ⟨#[]⟩, .int .u64 0, .int .i64 4, .int .i64 0, .int .u64 0, .string s, .int .u64 0, .int .i64 4, .int .i64 0, .int .u64 0, .string t, .int .u64 0, .int .i64 3, .int .i64 0, .int .u64 bits, .string ⟨#[]⟩, .int .u64 0, .int .i64 0, .int .i64 0, .int .u64 0, .string ⟨#[]⟩, .int .u64 0, .int .i64 1, .int .i64 1, .int .u64 0, .string ⟨#[]⟩, .int .u64 0, .int .i64 1, .int .i64 0, .int .u64 0, .string ⟨#[]⟩, .int .u64 0, .int .i64 2, .int .i64 i, .int .u64 0, .string ⟨#[]⟩, .int .u64 0, .int .i64 4, .int .i64 0, .int .u64 0, .string s, .int .u64 0] ∧ xs.length = 10 ∧ ∀ (k : Nat) (x : Pl), xs[k]? = some x → FitV x := by
  refine ⟨[pInt i, pInt j, pTxt s, pTxt t, pFlt bits, pNil, pBool true, pBool false, pInt i, pTxt s], rfl, rfl, ?_⟩
  intro k x h
  have hm := List.mem_of_getElem? h
  simp only [List.mem_cons, List.not_mem_nil, or_false] at hm
  have fi : ∀ i : Int, (-9223372036854775808 ≤ i ∧ i ≤ 9223372036854775807) → FitV (pInt i) := fun i h => .inr (.inr (.inl ⟨i, rfl, h.1, h.2⟩))
  have fs : ∀ s : ByteArray, s.size ≤ 1000 → FitV (pTxt s) := fun s h => .inr (.inr (.inr (.inr ⟨s, rfl, h⟩)))
  rcases hm with rfl | rfl | rfl | rfl | rfl | rfl | rfl | rfl | rfl | rfl
  · exact fi _ hi
  · exact fi _ hj
  · exact fs _ hs
  · exact fs _ ht
  · exact .inr (.inr (.inr (.inl ⟨bits, rfl, hb.1, hb.2⟩)))
  · exact .inl rfl
  · exact .inr (.inl ⟨true, rfl⟩)
  · exact .inr (.inl ⟨false, rfl⟩)
  · exact fi _ hi
  · exact fs _ hs
set_option maxRecDepth 100000 in
set_option maxHeartbeats 4000000 in
theorem vs_main (i j bits : Int) (s t : ByteArray) (xs : List Pl) (hfl : (flatV xs).toArray = #[.int .i64 2, .int .i64 i, .int .u64 0, .string ⟨#[]⟩, .int .u64 0, .int .i64 2, .int .i64 j, .int .u64 0, .string ⟨#[]⟩, .int .u64 0, .int .i64 4, .int .i64 0, .int .u64 0, .string s, .int .u64 0, .int .i64 4, .int .i64 0, .int .u64 0, .string t, .int .u64 0, .int .i64 3, .int .i64 0, .int .u64 bits, .string ⟨#[]⟩, .int .u64 0, .int .i64 0, .int .i64 0, .int .u64 0, .string ⟨#[]⟩, .int .u64 0, .int .i64 1, .int .i64 1, .int .u64 0, .string ⟨#[]⟩, .int .u64 0, .int .i64 1, .int .i64 0, .int .u64 0, .string ⟨#[]⟩, .int .u64 0, .int .i64 2, .int .i64 i, .int .u64 0, .string ⟨#[]⟩, .int .u64 0, .int .i64 4, .int .i64 0, .int .u64 0, .string s, .int .u64 0]) (hlen : xs.length = 10) (hfit : ∀ (k : Nat) (x : Pl), xs[k]? = some x → FitV x) (hs : s.size ≤ 1000) (ht : t.size ≤ 1000) (W : World) : Calls Try.prog 5 #[.int .i64 i, .int .i64 j, .string s, .string t, .int .u64 bits] W fun e w' => e = .returned (.bool true) ∧ Below W.heap.size W w' := by
  have cn := hf_new (Below.refl W.heap.size W) 2000 (by decide)
  rw [show ((2000 : Nat) : Int) = 2000 from rfl] at cn
  have g1 : ¬ (s.size : Int) > 1000 := by omega
  have g2 : ¬ (t.size : Int) > 1000 := by omega
  have FL := hid hfl
  have LEN := hid hlen
  have FIT := hid hfit
  clear hs ht hfl hlen hfit
  go_enter Try.func5, Try.ntmps5
  go_upto_region 6 with (go_at_call 7; (with_reducible refine cn.mono ?_); rintro e W1 ⟨hb, rfl, q1, hB1⟩; clear cn)
  go_upto_region 8 with fail
  obtain ⟨K2, s2⟩ := Vs.start q1 xs (by have := LEN.out; omega)
  rw [FL.out, LEN.out] at s2
  clear q1 hB1 FL g1 g2
  generalize W1.heap.size = lb at *
  generalize W1.alloc (.cells #[.int .i64 2, .int .i64 i, .int .u64 0, .string ⟨#[]⟩, .int .u64 0, .int .i64 2, .int .i64 j, .int .u64 0, .string ⟨#[]⟩, .int .u64 0, .int .i64 4, .int .i64 0, .int .u64 0, .string s, .int .u64 0, .int .i64 4, .int .i64 0, .int .u64 0, .string t, .int .u64 0, .int .i64 3, .int .i64 0, .int .u64 bits, .string ⟨#[]⟩, .int .u64 0, .int .i64 0, .int .i64 0, .int .u64 0, .string ⟨#[]⟩, .int .u64 0, .int .i64 1, .int .i64 1, .int .u64 0, .string ⟨#[]⟩, .int .u64 0, .int .i64 1, .int .i64 0, .int .u64 0, .string ⟨#[]⟩, .int .u64 0, .int .i64 2, .int .i64 i, .int .u64 0, .string ⟨#[]⟩, .int .u64 0, .int .i64 4, .int .i64 0, .int .u64 0, .string s, .int .u64 0] 40) = W2 at *
  have S2 := hid s2
  clear s2
  go_wp2
  go_loopw [14, 15, 16, 17] (fun vw kk _ _ wr => ∃ (k : Nat) (ws : List Nat) (H : List (Option Hc)) (K : Nat → Prop), k ≤ 10 ∧ ws.length = k ∧ kk = .int .i64 k ∧ Vs W wr hb 2000 k H K (.slice (some ⟨lb, 0, none⟩) 10 10) vw xs ws) (fun _ kk _ _ _ => 10 - (intOf kk).toNat)
  case atStart => exact ⟨0, [], [], K2, by omega, rfl, rfl, S2.out⟩
  case round =>
    obtain ⟨k, ws, H, K, hk, hws, rfl, sv⟩ := hrel
    clear S2
    obtain ⟨ov, cv, hv⟩ := slice_of (owns_base sv.w.row (b' := 0) (fun _ _ => Nat.zero_le _))
    rw [hws] at hv
    subst hv
    have HWS := hid hws
    clear hws
    have S1 := hid sv
    by_cases hlt : k < 10
    · obtain ⟨x, hx⟩ : ∃ x, xs[k]? = some x := ⟨_, List.getElem?_eq_getElem (by have := LEN.out; omega)⟩
      have k0 : (0 : Int) ≤ k := Int.natCast_nonneg _
      have k1 : (k : Int) < 10 := by omega
      have CX := hid (sv.cells LEN.out k x hx)
      have HX := hid hx
      clear sv hx
      go_upto_region 11 with fail
      obtain ⟨vc, Wc, hrun, hwc, bc⟩ := copy_run (W1 := wr.drew) 28 (.slice ov k cv) ws (show WordsAt wr (.slice ov k cv) ws from S1.out.w.words) (by have := HWS.out; omega)
      have bc' : Below wr.heap.size wr Wc := ⟨bc.os, bc.tape, bc.output, bc.size, bc.block⟩
      have sc := S1.out.below' bc'
      have cb : Calls Try.prog 12 #[.pointer (some ⟨hb, 0, none⟩), .agg #[.int .i64 x.kd, .int .i64 x.i, .int .u64 x.bi, .string x.t, .int .u64 x.re], vc] Wc (BoxP W Wc hb H 2000 K x) := box_any sc.q vc ws hwc x (FIT.out k x HX.out) (by have := sc.need; omega) (by have := sc.hl; omega)
      have hrun' : (Builtin.append_ #[28, 28] 28 #[.slice (some ⟨wr.heap.size, 0, none⟩) 0 0, (.slice ov k cv)]).run Try.prog (wr.alloc (.cells #[] 30)).drew = .ok vc Wc := hrun
      have ltb : lb < wr.heap.size := (S1.out.l.row.lt lb rfl).2
      have fA : (wr.alloc (.cells #[] 30)).drew.heap[lb]? = wr.heap[lb]? := Below.heap_alloc wr _ lb ltb
      have fC : Wc.heap[lb]? = wr.heap[lb]? := bc'.block _ ltb
      have klb : K lb := S1.out.l.keep lb rfl
      have SC := hid sc
      clear sc hrun hwc
      obtain ⟨OB, hOB⟩ : ∃ OB, OB = wr.heap[lb]? := ⟨_, rfl⟩
      have fO := hOB.symm
      rw [← hOB] at fA fC
      have CY : Hid (∀ w' : World, w'.heap[lb]? = OB → CellsAt w' lb k x) := hid (fun w' e => CX.out.on (e.trans hOB))
      clear hOB CX
      refine wp_region_held_drew (S := fun w' => w'.heap[lb]? = OB) (by kernel_rfl) fO ?_
      intro hS
      (refine wpAnyH_take (i := 0) (v := ?_) rfl (by kernel_rfl) (by kernel_rfl) (by kernel_rfl) (fun _ _ _ h => h) (Or.inl ⟨by rfl, ?_⟩) hS ?_); rotate_left; (focus (intro w' hSw; obtain ⟨c0, c1, c2, c3, c4⟩ := CY.out w' hSw; go_simp; (try with_reducible rfl))); (try simp only [Act.put, List.getElem_toArray, List.getElem_cons_zero, List.getElem_cons_succ, List.setIfInBounds_toArray, List.set_cons_zero, List.set_cons_succ])
      (refine wpAnyH_take (i := 1) (v := ?_) rfl (by kernel_rfl) (by kernel_rfl) (by kernel_rfl) (fun _ _ _ h => h) (Or.inl ⟨by rfl, ?_⟩) hS ?_); rotate_left; (focus (intro w' hSw; obtain ⟨c0, c1, c2, c3, c4⟩ := CY.out w' hSw; go_simp; (try with_reducible rfl))); (try simp only [Act.put, List.getElem_toArray, List.getElem_cons_zero, List.getElem_cons_succ, List.setIfInBounds_toArray, List.set_cons_zero, List.set_cons_succ])
      (refine wpAnyH_take (i := 2) (v := ?_) rfl (by kernel_rfl) (by kernel_rfl) (by kernel_rfl) (fun _ _ _ h => h) (Or.inl ⟨by rfl, ?_⟩) hS ?_); rotate_left; (focus (intro w' hSw; obtain ⟨c0, c1, c2, c3, c4⟩ := CY.out w' hSw; go_simp; (try with_reducible rfl))); (try simp only [Act.put, List.getElem_toArray, List.getElem_cons_zero, List.getElem_cons_succ, List.setIfInBounds_toArray, List.set_cons_zero, List.set_cons_succ])
      (refine wpAnyH_take (i := 3) (v := ?_) rfl (by kernel_rfl) (by kernel_rfl) (by kernel_rfl) (fun _ _ _ h => h) (Or.inl ⟨by rfl, ?_⟩) hS ?_); rotate_left; (focus (intro w' hSw; obtain ⟨c0, c1, c2, c3, c4⟩ := CY.out w' hSw; go_simp; (try with_reducible rfl))); (try simp only [Act.put, List.getElem_toArray, List.getElem_cons_zero, List.getElem_cons_succ, List.setIfInBounds_toArray, List.set_cons_zero, List.set_cons_succ])
      (refine wpAnyH_take (i := 4) (v := ?_) rfl (by kernel_rfl) (by kernel_rfl) (by kernel_rfl) (fun _ _ _ h => h) (Or.inl ⟨by rfl, ?_⟩) hS ?_); rotate_left; (focus (intro w' hSw; obtain ⟨c0, c1, c2, c3, c4⟩ := CY.out w' hSw; go_simp; (try with_reducible rfl))); (try simp only [Act.put, List.getElem_toArray, List.getElem_cons_zero, List.getElem_cons_succ, List.setIfInBounds_toArray, List.set_cons_zero, List.set_cons_succ])
      (refine wpAnyH_take (i := 6) (v := ?_) rfl (by kernel_rfl) (by kernel_rfl) (by kernel_rfl) (fun _ _ _ h => h) (Or.inl ⟨by rfl, ?_⟩) hS ?_); rotate_left; (focus (intro w' hSw; obtain ⟨c0, c1, c2, c3, c4⟩ := CY.out w' hSw; go_simp; (try with_reducible rfl))); (try simp only [Act.put, List.getElem_toArray, List.getElem_cons_zero, List.getElem_cons_succ, List.setIfInBounds_toArray, List.set_cons_zero, List.set_cons_succ])
      refine wpAnyH_ready (rs := [5]) (by kernel_rfl) (by simp) ?_
      refine AllReadyH.cons rfl (fun K hK => ?_) AllReadyH.nil
      go_simp
      refine hK.out _ _ fA (fun hS2 => ?_)
      clear hK K hS fA
      (try simp only [Act.put, List.getElem_toArray, List.getElem_cons_zero, List.getElem_cons_succ, List.setIfInBounds_toArray, List.set_cons_zero, List.set_cons_succ])
      refine wpAnyH_ready (rs := [7]) (by kernel_rfl) (by simp) ?_
      refine AllReadyH.cons rfl (fun K hK => ?_) AllReadyH.nil
      rw [if_pos (by rfl)]
      refine Lib.wp_append_run _ (.tmp 75) (.tmp 76) 28 28 rfl _ _ rfl rfl _ _ hrun' ?_
      refine hK.out _ _ fC (fun hS3 => ?_)
      clear hK K hS2 hrun'
      (try simp only [Act.put, List.getElem_toArray, List.getElem_cons_zero, List.getElem_cons_succ, List.setIfInBounds_toArray, List.set_cons_zero, List.set_cons_succ])
      refine wpAnyH_ready (rs := [8]) (by kernel_rfl) (by simp) ?_
      refine AllReadyH.cons rfl (fun K hK => ?_) AllReadyH.nil
      go_simp
      refine cb.mono ?_
      rintro e w8 ⟨x0, H8, rfl, q8, E8, un8, n8, l8, lt8, U8⟩
      have f8 : w8.heap[lb]? = OB := (U8.block lb (Nat.lt_of_lt_of_le ltb bc'.size) (fun e => e.1 klb)).trans fC
      refine hK.out _ _ f8 (fun hS4 => ?_)
      have s8 := SC.out.put q8 E8 n8 l8 U8
      clear hK hS3 cb fC fO
      (try simp only [Act.put, List.getElem_toArray, List.getElem_cons_zero, List.getElem_cons_succ, List.setIfInBounds_toArray, List.set_cons_zero, List.set_cons_succ])
      (refine wpAnyH_take (i := 9) (v := ?_) rfl (by kernel_rfl) (by kernel_rfl) (by kernel_rfl) (fun _ _ _ h => h) (Or.inl ⟨by rfl, ?_⟩) hS4 ?_); rotate_left; (focus (intro w' hSw; go_simp; (try with_reducible rfl))); (try simp only [Act.put, List.getElem_toArray, List.getElem_cons_zero, List.getElem_cons_succ, List.setIfInBounds_toArray, List.set_cons_zero, List.set_cons_succ])
      (refine wpAnyH_take (i := 10) (v := ?_) rfl (by kernel_rfl) (by kernel_rfl) (by kernel_rfl) (fun _ _ _ h => h) (Or.inl ⟨by rfl, ?_⟩) hS4 ?_); rotate_left; (focus (intro w' hSw; go_simp; (try with_reducible rfl))); (try simp only [Act.put, List.getElem_toArray, List.getElem_cons_zero, List.getElem_cons_succ, List.setIfInBounds_toArray, List.set_cons_zero, List.set_cons_succ])
      (refine wpAnyH_take (i := 11) (v := ?_) rfl (by kernel_rfl) (by kernel_rfl) (by kernel_rfl) (fun _ _ _ h => h) (Or.inl ⟨by rfl, ?_⟩) hS4 ?_); rotate_left; (focus (intro w' hSw; go_simp; (try with_reducible rfl))); (try simp only [Act.put, List.getElem_toArray, List.getElem_cons_zero, List.getElem_cons_succ, List.setIfInBounds_toArray, List.set_cons_zero, List.set_cons_succ])
      (refine wpAnyH_take (i := 12) (v := ?_) rfl (by kernel_rfl) (by kernel_rfl) (by kernel_rfl) (fun _ _ _ h => h) (Or.inl ⟨by rfl, ?_⟩) hS4 ?_); rotate_left; (focus (intro w' hSw; go_simp; (try with_reducible rfl))); (try simp only [Act.put, List.getElem_toArray, List.getElem_cons_zero, List.getElem_cons_succ, List.setIfInBounds_toArray, List.set_cons_zero, List.set_cons_succ])
      (refine wpAnyH_take (i := 13) (v := ?_) rfl (by kernel_rfl) (by kernel_rfl) (by kernel_rfl) (fun _ _ _ h => h) (Or.inl ⟨by rfl, ?_⟩) hS4 ?_); rotate_left; (focus (intro w' hSw; go_simp; (try with_reducible rfl))); (try simp only [Act.put, List.getElem_toArray, List.getElem_cons_zero, List.getElem_cons_succ, List.setIfInBounds_toArray, List.set_cons_zero, List.set_cons_succ])
      refine wpAnyH_done (by kernel_rfl) ?_ _
      clear hS4 f8
      have S8 := hid s8
      clear s8
      go_upto_region 14 with fail
      obtain ⟨v9, w9, r9, K9, s9⟩ := S8.out.word 28 x0 lt8 (by have := HWS.out; omega) (fun p hp => by rw [HWS.out, HX.out] at hp; injection hp with hp; subst hp; exact un8)
      have L9 : (ws ++ [x0]).length = k + 1 := by rw [List.length_append, HWS.out]; rfl
      obtain ⟨o9, c9, hv9⟩ := slice_of (owns_base s9.w.row (b' := 0) (fun _ _ => Nat.zero_le _))
      rw [L9] at hv9
      subst hv9
      have S9 := hid s9
      have HL9 := hid L9
      clear s9 L9 S8 SC q8 E8 un8 n8 l8 U8 S1 bc bc' ltb klb
      go_wp2_with (at_builtin; refine Lib.wpList_append_run _ rfl (.tmp 83) (.tmp 85) 28 28 rfl _ _ (by simp [Act.eval]) (by simp [Act.eval]) _ _ r9 ?_)
      go_roundw
      case rel => exact ⟨k + 1, ws ++ [x0], H8, K9, by omega, HL9.out, by go_num, S9.out⟩
      case measure => simp [intOf]; omega
    · have ek : k = 10 := by omega
      rw [show (k : Int) = 10 by omega]
      subst ek
      clear sv hlt hk
      go_wp2
      go_loopw [13, 14, 18, 19, 20] (fun vl vw nn _ _ wr => ∃ (n m : Nat) (ys : List Pl) (ws : List Nat) (H : List (Option Hc)) (K : Nat → Prop), m = 10 + n ∧ n ≤ 2 ∧ ys.length = m ∧ ws.length = m ∧ nn = .int .i64 n ∧ Vs W wr hb 2000 m H K vl vw ys ws) (fun _ _ nn _ _ _ => 2 - (intOf nn).toNat)
      case atStart => exact ⟨0, 10, xs, ws, H, K, rfl, by omega, LEN.out, HWS.out, rfl, S1.out⟩
      case round =>
        clear S1 HWS LEN FIT
        obtain ⟨n, m, ys, ws, H, K, hm, hn, hys, hws, rfl, sv⟩ := hrel
        obtain ⟨ov, cv, hv⟩ := slice_of (owns_base sv.w.row (b' := 0) (fun _ _ => Nat.zero_le _))
        obtain ⟨bl, cl, hl, hcl⟩ := own_slice (owns_base sv.l.row (b' := 0) (fun _ _ => Nat.zero_le _)) (by omega)
        rw [hws] at hv
        rw [hys] at hl
        subst hv
        subst hl
        have HWS := hid hws
        have HYS := hid hys
        have HM := hid hm
        clear hws hys hm hcl
        have S1 := hid sv
        by_cases hlt : n < 2
        · have n0 : (0 : Int) ≤ n := Int.natCast_nonneg _
          have n1 : (n : Int) < 2 := by omega
          clear sv
          go_upto_region 18 with fail
          obtain ⟨vc, Wc, hrun, hwc, bc⟩ := copy_run (W1 := wr) 28 (.slice ov m cv) ws (show WordsAt wr (.slice ov m cv) ws from S1.out.w.words) (by have := HWS.out; have := HM.out; omega)
          have sc := S1.out.below' bc
          have cp := row_any sc.q vc ws hwc (by have := sc.need; have := HM.out; omega) (by have := sc.hl; have := HM.out; omega)
          have SC := hid sc
          clear sc hwc
          go_upto_region 19 with (first | (at_builtin; refine Lib.wpList_append_run _ rfl (.tmp 94) (.tmp 95) 28 28 rfl _ _ (by simp [Act.eval]) (by simp [Act.eval]) _ _ hrun ?_) | (go_at_call 8; (with_reducible refine cp.mono ?_); rintro e w8 ⟨x0, H8, rfl, q8, E8, un8, n8, l8, lt8, U8⟩; clear cp))
          have s8 := SC.out.put q8 E8 n8 l8 U8
          have S8 := hid s8
          clear s8 hrun
          go_upto_region 21 with fail
          obtain ⟨v9, w9, r9, K9, s9⟩ := S8.out.word 28 x0 lt8 (by have := HWS.out; have := HM.out; omega) (fun p hp => by rw [HWS.out, List.getElem?_eq_none (by have := HYS.out; omega)] at hp; cases hp)
          have L9 : (ws ++ [x0]).length = m + 1 := by rw [List.length_append, HWS.out]; rfl
          obtain ⟨o9, c9, hv9⟩ := slice_of (owns_base s9.w.row (b' := 0) (fun _ _ => Nat.zero_le _))
          rw [L9] at hv9
          subst hv9
          obtain ⟨va, wa, ra, Ka, sa⟩ := s9.value 41 (pRow x0) (by have := HYS.out; have := HM.out; omega) (fun y hy => by rw [HYS.out, ← HWS.out] at hy; simp at hy; subst hy; exact un8)
          have La : (ys ++ [pRow x0]).length = m + 1 := by rw [List.length_append, HYS.out]; rfl
          obtain ⟨oa, ca, hva⟩ := slice_of (owns_base sa.l.row (b' := 0) (fun _ _ => Nat.zero_le _))
          rw [La] at hva
          subst hva
          have ra' : (Builtin.append_ #[41, 41] 41 #[.slice (some ⟨bl, 0, none⟩) m cl, .slice (some ⟨w9.heap.size, 0, none⟩) 1 1]).run Try.prog (w9.alloc (.cells #[.int .i64 9, .int .i64 0, .int .u64 0, .string ⟨#[]⟩, .int .u64 x0] 40)) = .ok (.slice oa (m + 1) ca) wa := ra
          have SA := hid sa
          have HLA := hid La
          have HL9 := hid L9
          clear sa La L9 ra s9 S8 SC q8 E8 un8 n8 l8 U8 S1 bc
          go_wp2_with (first | (at_builtin; refine Lib.wpList_append_run _ rfl (.tmp 102) (.tmp 104) 28 28 rfl _ _ (by simp [Act.eval]) (by simp [Act.eval]) _ _ r9 ?_) | (at_builtin; refine Lib.wpList_append_run _ rfl (.tmp 106) (.tmp 109) 41 41 rfl _ _ (by simp [Act.eval]) (by simp [Act.eval]) _ _ ra' ?_))
          go_roundw
          case rel => exact ⟨n + 1, m + 1, ys ++ [pRow x0], ws ++ [x0], H8, Ka, by have := HM.out; omega, by omega, HLA.out, HL9.out, by go_num, SA.out⟩
          case measure => simp [intOf]; omega
        · have en : n = 2 := by omega
          rw [show (n : Int) = 2 by omega]
          subst en
          have em : m = 12 := HM.out
          subst em
          clear sv hlt hn HM
          obtain ⟨wb, cw, hwb, _⟩ := own_slice (owns_base S1.out.w.row (b' := 0) (fun _ _ => Nat.zero_le _)) (by have := HWS.out; omega)
          injection hwb with hwb hwb' hwb''
          subst hwb
          clear hwb' hwb''
          go_wp2
          go_loopw [21, 22, 23, 24, 25, 26] (fun aa _ _ _ _ _ wr => ∃ (a : Nat) (K : Nat → Prop), a ≤ 12 ∧ aa = .int .i64 a ∧ Vs W wr hb 2000 12 H K (.slice (some ⟨bl, 0, none⟩) 12 cl) (.slice (some ⟨wb, 0, none⟩) 12 cv) ys ws) (fun aa _ _ _ _ _ _ => 12 - (intOf aa).toNat)
          case atStart => exact ⟨0, K, by omega, rfl, S1.out⟩
          case round =>
            clear S1
            obtain ⟨a, K1, ha, rfl, sv⟩ := hrel
            have S1 := hid sv
            clear sv
            by_cases hlt : a < 12
            · obtain ⟨x, hx⟩ : ∃ x, ys[a]? = some x := ⟨_, List.getElem?_eq_getElem (by have := HYS.out; omega)⟩
              obtain ⟨wa, hwa⟩ : ∃ w, ws[a]? = some w := ⟨_, List.getElem?_eq_getElem (by have := HWS.out; omega)⟩
              have a0 : (0 : Int) ≤ a := Int.natCast_nonneg _
              have a1 : (a : Int) < 12 := by omega
              have HX := hid hx
              have HWA := hid hwa
              clear hx hwa
              go_wp2
              go_loopw [22, 23, 24, 25, 26] (fun bb _ _ _ _ wr => ∃ (b : Nat) (K : Nat → Prop), b ≤ 12 ∧ bb = .int .i64 b ∧ Vs W wr hb 2000 12 H K (.slice (some ⟨bl, 0, none⟩) 12 cl) (.slice (some ⟨wb, 0, none⟩) 12 cv) ys ws) (fun bb _ _ _ _ _ => 12 - (intOf bb).toNat)
              case atStart => exact ⟨0, K1, by omega, rfl, S1.out⟩
              case round =>
                clear S1
                obtain ⟨b, K2, hb', rfl, sv⟩ := hrel
                have S1 := hid sv
                clear sv
                by_cases hltb : b < 12
                · obtain ⟨y, hy⟩ : ∃ y, ys[b]? = some y := ⟨_, List.getElem?_eq_getElem (by have := HYS.out; omega)⟩
                  obtain ⟨wb', hwb⟩ : ∃ w, ws[b]? = some w := ⟨_, List.getElem?_eq_getElem (by have := HWS.out; omega)⟩
                  have b0 : (0 : Int) ≤ b := Int.natCast_nonneg _
                  have b1 : (b : Int) < 12 := by omega
                  have ux := S1.out.un a wa x HWA.out HX.out
                  have uy := S1.out.un b wb' y hwb hy
                  have CY : Hid (∀ w', Below wr.heap.size wr w' → CellsAt w' bl a x ∧ CellsAt w' bl b y) := hid (fun w' hB => ⟨(S1.out.below' hB).cells HYS.out a x HX.out, (S1.out.below' hB).cells HYS.out b y hy⟩)
                  have CW : Hid (∀ w', Below wr.heap.size wr w' → w'.cell? ⟨wb, a, none⟩ = some (.int .u64 (wa : Nat)) ∧ w'.cell? ⟨wb, b, none⟩ = some (.int .u64 (wb' : Nat))) := hid (fun w' hB => ⟨(S1.out.below' hB).wordAt HWS.out a wa HWA.out, (S1.out.below' hB).wordAt HWS.out b wb' hwb⟩)
                  have UX := hid ux
                  have UY := hid uy
                  clear ux uy hy hwb
                  go_upto_region 29 with fail
                  refine wp_region_held_drew (S := fun w' => Below wr.heap.size wr w') (by kernel_rfl) (Below.refl _ wr).drew ?_
                  intro hS
                  (refine wpAnyH_take (i := 0) (v := ?_) rfl (by kernel_rfl) (by kernel_rfl) (by kernel_rfl) (fun _ _ _ h => h) (Or.inl ⟨by rfl, ?_⟩) hS ?_); rotate_left; (focus (intro w' hSw; obtain ⟨⟨c0, c1, c2, c3, c4⟩, ⟨d0, d1, d2, d3, d4⟩⟩ := CY.out w' hSw; go_simp; (try with_reducible rfl))); (try simp only [Act.put, List.getElem_toArray, List.getElem_cons_zero, List.getElem_cons_succ, List.setIfInBounds_toArray, List.set_cons_zero, List.set_cons_succ])
                  (refine wpAnyH_take (i := 1) (v := ?_) rfl (by kernel_rfl) (by kernel_rfl) (by kernel_rfl) (fun _ _ _ h => h) (Or.inl ⟨by rfl, ?_⟩) hS ?_); rotate_left; (focus (intro w' hSw; obtain ⟨⟨c0, c1, c2, c3, c4⟩, ⟨d0, d1, d2, d3, d4⟩⟩ := CY.out w' hSw; go_simp; (try with_reducible rfl))); (try simp only [Act.put, List.getElem_toArray, List.getElem_cons_zero, List.getElem_cons_succ, List.setIfInBounds_toArray, List.set_cons_zero, List.set_cons_succ])
                  (refine wpAnyH_take (i := 2) (v := ?_) rfl (by kernel_rfl) (by kernel_rfl) (by kernel_rfl) (fun _ _ _ h => h) (Or.inl ⟨by rfl, ?_⟩) hS ?_); rotate_left; (focus (intro w' hSw; obtain ⟨⟨c0, c1, c2, c3, c4⟩, ⟨d0, d1, d2, d3, d4⟩⟩ := CY.out w' hSw; go_simp; (try with_reducible rfl))); (try simp only [Act.put, List.getElem_toArray, List.getElem_cons_zero, List.getElem_cons_succ, List.setIfInBounds_toArray, List.set_cons_zero, List.set_cons_succ])
                  (refine wpAnyH_take (i := 3) (v := ?_) rfl (by kernel_rfl) (by kernel_rfl) (by kernel_rfl) (fun _ _ _ h => h) (Or.inl ⟨by rfl, ?_⟩) hS ?_); rotate_left; (focus (intro w' hSw; obtain ⟨⟨c0, c1, c2, c3, c4⟩, ⟨d0, d1, d2, d3, d4⟩⟩ := CY.out w' hSw; go_simp; (try with_reducible rfl))); (try simp only [Act.put, List.getElem_toArray, List.getElem_cons_zero, List.getElem_cons_succ, List.setIfInBounds_toArray, List.set_cons_zero, List.set_cons_succ])
                  (refine wpAnyH_take (i := 4) (v := ?_) rfl (by kernel_rfl) (by kernel_rfl) (by kernel_rfl) (fun _ _ _ h => h) (Or.inl ⟨by rfl, ?_⟩) hS ?_); rotate_left; (focus (intro w' hSw; obtain ⟨⟨c0, c1, c2, c3, c4⟩, ⟨d0, d1, d2, d3, d4⟩⟩ := CY.out w' hSw; go_simp; (try with_reducible rfl))); (try simp only [Act.put, List.getElem_toArray, List.getElem_cons_zero, List.getElem_cons_succ, List.setIfInBounds_toArray, List.set_cons_zero, List.set_cons_succ])
                  (refine wpAnyH_take (i := 5) (v := ?_) rfl (by kernel_rfl) (by kernel_rfl) (by kernel_rfl) (fun _ _ _ h => h) (Or.inl ⟨by rfl, ?_⟩) hS ?_); rotate_left; (focus (intro w' hSw; obtain ⟨⟨c0, c1, c2, c3, c4⟩, ⟨d0, d1, d2, d3, d4⟩⟩ := CY.out w' hSw; go_simp; (try with_reducible rfl))); (try simp only [Act.put, List.getElem_toArray, List.getElem_cons_zero, List.getElem_cons_succ, List.setIfInBounds_toArray, List.set_cons_zero, List.set_cons_succ])
                  (refine wpAnyH_take (i := 6) (v := ?_) rfl (by kernel_rfl) (by kernel_rfl) (by kernel_rfl) (fun _ _ _ h => h) (Or.inl ⟨by rfl, ?_⟩) hS ?_); rotate_left; (focus (intro w' hSw; obtain ⟨⟨c0, c1, c2, c3, c4⟩, ⟨d0, d1, d2, d3, d4⟩⟩ := CY.out w' hSw; go_simp; (try with_reducible rfl))); (try simp only [Act.put, List.getElem_toArray, List.getElem_cons_zero, List.getElem_cons_succ, List.setIfInBounds_toArray, List.set_cons_zero, List.set_cons_succ])
                  (refine wpAnyH_take (i := 7) (v := ?_) rfl (by kernel_rfl) (by kernel_rfl) (by kernel_rfl) (fun _ _ _ h => h) (Or.inl ⟨by rfl, ?_⟩) hS ?_); rotate_left; (focus (intro w' hSw; obtain ⟨⟨c0, c1, c2, c3, c4⟩, ⟨d0, d1, d2, d3, d4⟩⟩ := CY.out w' hSw; go_simp; (try with_reducible rfl))); (try simp only [Act.put, List.getElem_toArray, List.getElem_cons_zero, List.getElem_cons_succ, List.setIfInBounds_toArray, List.set_cons_zero, List.set_cons_succ])
                  refine wpAnyH_ready (rs := [8, 9]) (by kernel_rfl) (by simp) ?_
                  refine AllReadyH.cons rfl (fun K hK => ?_) (AllReadyH.cons rfl (fun K hK => ?_) AllReadyH.nil)
                  · go_simp
                    have za : Below wr.heap.size wr (wr.alloc (.cells #[.int .i64 0, .int .i64 0, .int .u64 0, .string ⟨#[]⟩, .int .u64 0] 40)).drew := ((Below.refl _ wr).alloc (Nat.le_refl _) _).drew
                    have zb : (wr.alloc (.cells #[.int .i64 0, .int .i64 0, .int .u64 0, .string ⟨#[]⟩, .int .u64 0] 40)).drew.heap[wr.heap.size]? = some (.cells #[.int .i64 0, .int .i64 0, .int .u64 0, .string ⟨#[]⟩, .int .u64 0] 40 (0, 0)) := World.alloc_heap_new wr _
                    generalize (wr.alloc (.cells #[.int .i64 0, .int .i64 0, .int .u64 0, .string ⟨#[]⟩, .int .u64 0] 40)).drew = Wa at *
                    refine hK.out _ _ za (fun _ => ?_)
                    clear hK K
                    (try simp only [Act.put, List.getElem_toArray, List.getElem_cons_zero, List.getElem_cons_succ, List.setIfInBounds_toArray, List.set_cons_zero, List.set_cons_succ])
                    refine wpAnyH_ready (rs := [9]) (by kernel_rfl) (by simp) ?_
                    refine AllReadyH.cons rfl (fun K hK => ?_) AllReadyH.nil
                    go_simp
                    have bx := bx_next za zb
                    generalize Wa.alloc (.cells #[.int .i64 0, .int .i64 0, .int .u64 0, .string ⟨#[]⟩, .int .u64 0] 40) = Wb at *
                    refine hK.out _ _ bx.bel (fun _ => ?_)
                    clear hK K za zb
                    (try simp only [Act.put, List.getElem_toArray, List.getElem_cons_zero, List.getElem_cons_succ, List.setIfInBounds_toArray, List.set_cons_zero, List.set_cons_succ])
                    have B1 := hid bx
                    have p0 : Wb.cell? ⟨wr.heap.size, 0, none⟩ = some (.int .i64 0) := bx.cx.1
                    have p1 : Wb.cell? ⟨wr.heap.size, 1, none⟩ = some (.int .i64 0) := bx.cx.2.1
                    have p2 : Wb.cell? ⟨wr.heap.size, 2, none⟩ = some (.int .u64 0) := bx.cx.2.2.1
                    have p3 : Wb.cell? ⟨wr.heap.size, 3, none⟩ = some (.string ⟨#[]⟩) := bx.cx.2.2.2.1
                    have p4 : Wb.cell? ⟨wr.heap.size, 4, none⟩ = some (.int .u64 0) := bx.cx.2.2.2.2.1
                    have pz : ∀ j, Wb.frozen? ⟨wr.heap.size, j, none⟩ = false := bx.cx.2.2.2.2.2
                    clear bx
                    refine wpAnyH_ready (rs := [10]) (by kernel_rfl) (by simp) ?_
                    refine AllReadyH.cons rfl (fun K hK => ?_) AllReadyH.nil
                    go_simp
                    have b2 := B1.out.putx x
                    unfold put5 at b2
                    generalize ((((World.setCell Wb ⟨wr.heap.size, 0, none⟩ (.int .i64 x.kd)).setCell ⟨wr.heap.size, 1, none⟩ (.int .i64 x.i)).setCell ⟨wr.heap.size, 2, none⟩ (.int .u64 x.bi)).setCell ⟨wr.heap.size, 3, none⟩ (.string x.t)).setCell ⟨wr.heap.size, 4, none⟩ (.int .u64 x.re) = Wc at *
                    refine hK.out _ _ b2.bel (fun _ => ?_)
                    clear hK K p0 p1 p2 p3 p4 pz B1
                    (try simp only [Act.put, List.getElem_toArray, List.getElem_cons_zero, List.getElem_cons_succ, List.setIfInBounds_toArray, List.set_cons_zero, List.set_cons_succ])
                    have B2 := hid b2
                    have p0 : Wc.cell? ⟨Wa.heap.size, 0, none⟩ = some (.int .i64 0) := b2.cy.1
                    have p1 : Wc.cell? ⟨Wa.heap.size, 1, none⟩ = some (.int .i64 0) := b2.cy.2.1
                    have p2 : Wc.cell? ⟨Wa.heap.size, 2, none⟩ = some (.int .u64 0) := b2.cy.2.2.1
                    have p3 : Wc.cell? ⟨Wa.heap.size, 3, none⟩ = some (.string ⟨#[]⟩) := b2.cy.2.2.2.1
                    have p4 : Wc.cell? ⟨Wa.heap.size, 4, none⟩ = some (.int .u64 0) := b2.cy.2.2.2.2.1
                    have pz : ∀ j, Wc.frozen? ⟨Wa.heap.size, j, none⟩ = false := b2.cy.2.2.2.2.2
                    clear b2
                    refine wpAnyH_ready (rs := [11]) (by kernel_rfl) (by simp) ?_
                    refine AllReadyH.cons rfl (fun K hK => ?_) AllReadyH.nil
                    go_simp
                    have b3 := B2.out.puty y
                    unfold put5 at b3
                    generalize ((((World.setCell Wc ⟨Wa.heap.size, 0, none⟩ (.int .i64 y.kd)).setCell ⟨Wa.heap.size, 1, none⟩ (.int .i64 y.i)).setCell ⟨Wa.heap.size, 2, none⟩ (.int .u64 y.bi)).setCell ⟨Wa.heap.size, 3, none⟩ (.string y.t)).setCell ⟨Wa.heap.size, 4, none⟩ (.int .u64 y.re) = Wd at *
                    refine hK.out _ _ b3.bel (fun _ => ?_)
                    clear hK K p0 p1 p2 p3 p4 pz B2
                    (try simp only [Act.put, List.getElem_toArray, List.getElem_cons_zero, List.getElem_cons_succ, List.setIfInBounds_toArray, List.set_cons_zero, List.set_cons_succ])
                    refine wpAnyH_done (by kernel_rfl) ?_ _
                    clear hS
                    have B3 := hid b3
                    clear b3
                    go_upto_region 30 with fail
                    refine wp_region_held_drew (S := fun _ => True) (by kernel_rfl) trivial ?_
                    intro hS
                    have b4 := B3.out.drew
                    clear B3
                    generalize Wd.drew = We at *
                    have B4 := hid b4
                    have cF := refFromFloat_c x.bi UX.out.bits.1 UX.out.bits.2
                    have cG := refFromFloat_c y.bi UY.out.bits.1 UY.out.bits.2
                    obtain ⟨p0, p1, p2, p3, p4, pz⟩ := b4.cx
                    obtain ⟨r0, r1, r2, r3, r4, rz⟩ := b4.cy
                    clear b4
                    (refine wpAnyH_take (i := 0) (v := ?_) rfl (by kernel_rfl) (by kernel_rfl) (by kernel_rfl) (fun _ _ _ h => h) (Or.inl ⟨by rfl, ?_⟩) trivial ?_); rotate_left; (focus (intro w' hSw; go_simp; (try with_reducible rfl))); (try simp only [Act.put, List.getElem_toArray, List.getElem_cons_zero, List.getElem_cons_succ, List.setIfInBounds_toArray, List.set_cons_zero, List.set_cons_succ])
                    (refine wpAnyH_take (i := 3) (v := ?_) rfl (by kernel_rfl) (by kernel_rfl) (by kernel_rfl) (fun _ _ _ h => h) (Or.inl ⟨by rfl, ?_⟩) trivial ?_); rotate_left; (focus (intro w' hSw; go_simp; (try with_reducible rfl))); (try simp only [Act.put, List.getElem_toArray, List.getElem_cons_zero, List.getElem_cons_succ, List.setIfInBounds_toArray, List.set_cons_zero, List.set_cons_succ])
                    refine wpAnyH_ready (rs := [1, 4]) (by kernel_rfl) (by simp) ?_
                    refine AllReadyH.cons rfl (fun K hK => ?_) (AllReadyH.cons rfl (fun K hK => ?_) AllReadyH.nil)
                    · skip
                      go_simp
                      refine hK.out _ _ trivial (fun _ => ?_)
                      clear hK K
                      (try simp only [Act.put, List.getElem_toArray, List.getElem_cons_zero, List.getElem_cons_succ, List.setIfInBounds_toArray, List.set_cons_zero, List.set_cons_succ])
                      refine wpAnyH_ready (rs := [2, 4]) (by kernel_rfl) (by simp) ?_
                      refine AllReadyH.cons rfl (fun K hK => ?_) (AllReadyH.cons rfl (fun K hK => ?_) AllReadyH.nil)
                      · skip
                        go_simp
                        refine (cF _).mono ?_
                        rintro e w' ⟨rfl, hw⟩
                        (have hw' := hw.symm); subst hw'; clear hw
                        refine hK.out _ _ trivial (fun _ => ?_)
                        clear hK K
                        (try simp only [Act.put, List.getElem_toArray, List.getElem_cons_zero, List.getElem_cons_succ, List.setIfInBounds_toArray, List.set_cons_zero, List.set_cons_succ])
                        (refine wpAnyH_take (i := 6) (v := ?_) rfl (by kernel_rfl) (by kernel_rfl) (by kernel_rfl) (fun _ _ _ h => h) (Or.inl ⟨by rfl, ?_⟩) trivial ?_); rotate_left; (focus (intro w' hSw; go_simp; (try with_reducible rfl))); (try simp only [Act.put, List.getElem_toArray, List.getElem_cons_zero, List.getElem_cons_succ, List.setIfInBounds_toArray, List.set_cons_zero, List.set_cons_succ])
                        refine wpAnyH_ready (rs := [4]) (by kernel_rfl) (by simp) ?_
                        refine AllReadyH.cons rfl (fun K hK => ?_) AllReadyH.nil
                        go_simp
                        refine hK.out _ _ trivial (fun _ => ?_)
                        clear hK K
                        (try simp only [Act.put, List.getElem_toArray, List.getElem_cons_zero, List.getElem_cons_succ, List.setIfInBounds_toArray, List.set_cons_zero, List.set_cons_succ])
                        refine wpAnyH_ready (rs := [5]) (by kernel_rfl) (by simp) ?_
                        refine AllReadyH.cons rfl (fun K hK => ?_) AllReadyH.nil
                        go_simp
                        refine (cG _).mono ?_
                        rintro e w' ⟨rfl, hw⟩
                        (have hw' := hw.symm); subst hw'; clear hw
                        refine hK.out _ _ trivial (fun _ => ?_)
                        clear hK K
                        (try simp only [Act.put, List.getElem_toArray, List.getElem_cons_zero, List.getElem_cons_succ, List.setIfInBounds_toArray, List.set_cons_zero, List.set_cons_succ])
                        refine wpAnyH_ready (rs := [7]) (by kernel_rfl) (by simp) ?_
                        refine AllReadyH.cons rfl (fun K hK => ?_) AllReadyH.nil
                        go_simp
                        have b5 := B4.out.setx (fltW x.bi)
                        generalize World.setCell We ⟨wr.heap.size, 2, none⟩ (.int .u64 (fltW x.bi)) = Wf at *
                        refine hK.out _ _ trivial (fun _ => ?_)
                        clear hK K B4 p0 p1 p2 p3 p4 pz r0 r1 r2 r3 r4 rz
                        (try simp only [Act.put, List.getElem_toArray, List.getElem_cons_zero, List.getElem_cons_succ, List.setIfInBounds_toArray, List.set_cons_zero, List.set_cons_succ])
                        have B5 := hid b5
                        obtain ⟨r0, r1, r2, r3, r4, rz⟩ := b5.cy
                        clear b5
                        (refine wpAnyH_take (i := 8) (v := ?_) rfl (by kernel_rfl) (by kernel_rfl) (by kernel_rfl) (fun _ _ _ h => h) (Or.inl ⟨by rfl, ?_⟩) trivial ?_); rotate_left; (focus (intro w' hSw; go_simp; (try with_reducible rfl))); (try simp only [Act.put, List.getElem_toArray, List.getElem_cons_zero, List.getElem_cons_succ, List.setIfInBounds_toArray, List.set_cons_zero, List.set_cons_succ])
                        refine wpAnyH_ready (rs := [9]) (by kernel_rfl) (by simp) ?_
                        refine AllReadyH.cons rfl (fun K hK => ?_) AllReadyH.nil
                        go_simp
                        have b6 : Bx wr (World.setCell Wf ⟨Wa.heap.size, 2, none⟩ (.int .u64 (fltW y.bi))) wr.heap.size Wa.heap.size x.can y.can := B5.out.sety (fltW y.bi)
                        generalize World.setCell Wf ⟨Wa.heap.size, 2, none⟩ (.int .u64 (fltW y.bi)) = Wg at *
                        refine hK.out _ _ trivial (fun _ => ?_)
                        clear hK K B5 r0 r1 r2 r3 r4 rz hS cF cG
                        (try simp only [Act.put, List.getElem_toArray, List.getElem_cons_zero, List.getElem_cons_succ, List.setIfInBounds_toArray, List.set_cons_zero, List.set_cons_succ])
                        refine wpAnyH_done (by kernel_rfl) ?_ _
                        have B6 := hid b6
                        clear b6
                        go_upto_region 31 with fail
                        refine wp_region_held_drew (S := fun w' => Below wr.heap.size wr w') (by kernel_rfl) B6.out.bel.drew ?_
                        intro hS
                        have cS := same_any (S1.out.below' hS).q wa wb' x y UX.out UY.out
                        have er := eq_run x.can y.can
                        have eg := eq_guard x.can y.can
                        have b7 := B6.out.drew
                        clear B6
                        generalize Wg.drew = Wh at *
                        have B7 := hid b7
                        clear b7
                        generalize eqP x.can y.can = r at *
                        (refine wpAnyH_take (i := 0) (v := ?_) rfl (by kernel_rfl) (by kernel_rfl) (by kernel_rfl) (fun _ _ _ h => h) (Or.inl ⟨by rfl, ?_⟩) hS ?_); rotate_left; (focus (intro w' hSw; obtain ⟨c0, c1⟩ := CW.out w' hSw; go_simp; (try with_reducible rfl))); (try simp only [Act.put, List.getElem_toArray, List.getElem_cons_zero, List.getElem_cons_succ, List.setIfInBounds_toArray, List.set_cons_zero, List.set_cons_succ])
                        (refine wpAnyH_take (i := 1) (v := ?_) rfl (by kernel_rfl) (by kernel_rfl) (by kernel_rfl) (fun _ _ _ h => h) (Or.inl ⟨by rfl, ?_⟩) hS ?_); rotate_left; (focus (intro w' hSw; obtain ⟨c0, c1⟩ := CW.out w' hSw; go_simp; (try with_reducible rfl))); (try simp only [Act.put, List.getElem_toArray, List.getElem_cons_zero, List.getElem_cons_succ, List.setIfInBounds_toArray, List.set_cons_zero, List.set_cons_succ])
                        (refine wpAnyH_take (i := 2) (v := ?_) rfl (by kernel_rfl) (by kernel_rfl) (by kernel_rfl) (fun _ _ _ h => h) (Or.inl ⟨by rfl, ?_⟩) hS ?_); rotate_left; (focus (intro w' hSw; obtain ⟨c0, c1⟩ := CW.out w' hSw; go_simp; (try with_reducible rfl))); (try simp only [Act.put, List.getElem_toArray, List.getElem_cons_zero, List.getElem_cons_succ, List.setIfInBounds_toArray, List.set_cons_zero, List.set_cons_succ])
                        (refine wpAnyH_take (i := 3) (v := ?_) rfl (by kernel_rfl) (by kernel_rfl) (by kernel_rfl) (fun _ _ _ h => h) (Or.inl ⟨by rfl, ?_⟩) hS ?_); rotate_left; (focus (intro w' hSw; obtain ⟨c0, c1⟩ := CW.out w' hSw; go_simp; (try with_reducible rfl))); (try simp only [Act.put, List.getElem_toArray, List.getElem_cons_zero, List.getElem_cons_succ, List.setIfInBounds_toArray, List.set_cons_zero, List.set_cons_succ])
                        (refine wpAnyH_take (i := 4) (v := ?_) rfl (by kernel_rfl) (by kernel_rfl) (by kernel_rfl) (fun _ _ _ h => h) (Or.inl ⟨by rfl, ?_⟩) hS ?_); rotate_left; (focus (intro w' hSw; obtain ⟨c0, c1⟩ := CW.out w' hSw; go_simp; (try with_reducible rfl))); (try simp only [Act.put, List.getElem_toArray, List.getElem_cons_zero, List.getElem_cons_succ, List.setIfInBounds_toArray, List.set_cons_zero, List.set_cons_succ])
                        (refine wpAnyH_take (i := 5) (v := ?_) rfl (by kernel_rfl) (by kernel_rfl) (by kernel_rfl) (fun _ _ _ h => h) (Or.inl ⟨by rfl, ?_⟩) hS ?_); rotate_left; (focus (intro w' hSw; obtain ⟨c0, c1⟩ := CW.out w' hSw; go_simp; (try with_reducible rfl))); (try simp only [Act.put, List.getElem_toArray, List.getElem_cons_zero, List.getElem_cons_succ, List.setIfInBounds_toArray, List.set_cons_zero, List.set_cons_succ])
                        (refine wpAnyH_take (i := 6) (v := ?_) rfl (by kernel_rfl) (by kernel_rfl) (by kernel_rfl) (fun _ _ _ h => h) (Or.inl ⟨by rfl, ?_⟩) hS ?_); rotate_left; (focus (intro w' hSw; obtain ⟨c0, c1⟩ := CW.out w' hSw; go_simp; (try with_reducible rfl))); (try simp only [Act.put, List.getElem_toArray, List.getElem_cons_zero, List.getElem_cons_succ, List.setIfInBounds_toArray, List.set_cons_zero, List.set_cons_succ])
                        (refine wpAnyH_take (i := 7) (v := ?_) rfl (by kernel_rfl) (by kernel_rfl) (by kernel_rfl) (fun _ _ _ h => h) (Or.inl ⟨by rfl, ?_⟩) hS ?_); rotate_left; (focus (intro w' hSw; obtain ⟨c0, c1⟩ := CW.out w' hSw; go_simp; (try with_reducible rfl))); (try simp only [Act.put, List.getElem_toArray, List.getElem_cons_zero, List.getElem_cons_succ, List.setIfInBounds_toArray, List.set_cons_zero, List.set_cons_succ])
                        (refine wpAnyH_take (i := 8) (v := ?_) rfl (by kernel_rfl) (by kernel_rfl) (by kernel_rfl) (fun _ _ _ h => h) (Or.inl ⟨by rfl, ?_⟩) hS ?_); rotate_left; (focus (intro w' hSw; obtain ⟨c0, c1⟩ := CW.out w' hSw; go_simp; (try with_reducible rfl))); (try simp only [Act.put, List.getElem_toArray, List.getElem_cons_zero, List.getElem_cons_succ, List.setIfInBounds_toArray, List.set_cons_zero, List.set_cons_succ])
                        refine wpAnyH_ready (rs := [9]) (by kernel_rfl) (by simp) ?_
                        refine AllReadyH.cons rfl (fun K hK => ?_) AllReadyH.nil
                        go_simp
                        refine cS.mono ?_
                        rintro e Wi ⟨rfl, hB⟩
                        have b8 := B7.out.on hB
                        refine hK.out _ _ b8.bel (fun hS2 => ?_)
                        clear hK K cS B7 hS hB
                        (try simp only [Act.put, List.getElem_toArray, List.getElem_cons_zero, List.getElem_cons_succ, List.setIfInBounds_toArray, List.set_cons_zero, List.set_cons_succ])
                        have SV := hid (S1.out.below' hS2)
                        (refine wpAnyH_take (i := 10) (v := ?_) rfl (by kernel_rfl) (by kernel_rfl) (by kernel_rfl) (fun _ _ _ h => h) (Or.inl ⟨by rfl, ?_⟩) hS2 ?_); rotate_left; (focus (intro w' hSw; go_simp; (try with_reducible rfl))); (try simp only [Act.put, List.getElem_toArray, List.getElem_cons_zero, List.getElem_cons_succ, List.setIfInBounds_toArray, List.set_cons_zero, List.set_cons_succ])
                        (refine wpAnyH_take (i := 11) (v := ?_) rfl (by kernel_rfl) (by kernel_rfl) (by kernel_rfl) (fun _ _ _ h => h) (Or.inl ⟨by rfl, ?_⟩) hS2 ?_); rotate_left; (focus (intro w' hSw; go_simp; (try with_reducible rfl))); (try simp only [Act.put, List.getElem_toArray, List.getElem_cons_zero, List.getElem_cons_succ, List.setIfInBounds_toArray, List.set_cons_zero, List.set_cons_succ])
                        (refine wpAnyH_take (i := 12) (v := ?_) rfl (by kernel_rfl) (by kernel_rfl) (by kernel_rfl) (fun _ _ _ h => h) (Or.inl ⟨by rfl, ?_⟩) hS2 ?_); rotate_left; (focus (intro w' hSw; go_simp; (try with_reducible rfl))); (try simp only [Act.put, List.getElem_toArray, List.getElem_cons_zero, List.getElem_cons_succ, List.setIfInBounds_toArray, List.set_cons_zero, List.set_cons_succ])
                        (refine wpAnyH_take (i := 13) (v := ?_) rfl (by kernel_rfl) (by kernel_rfl) (by kernel_rfl) (fun _ _ _ h => h) (Or.inl ⟨by rfl, ?_⟩) hS2 ?_); rotate_left; (focus (intro w' hSw; go_simp; (try with_reducible rfl))); (try simp only [Act.put, List.getElem_toArray, List.getElem_cons_zero, List.getElem_cons_succ, List.setIfInBounds_toArray, List.set_cons_zero, List.set_cons_succ])
                        (refine wpAnyH_take (i := 14) (v := ?_) rfl (by kernel_rfl) (by kernel_rfl) (by kernel_rfl) (fun _ _ _ h => h) (Or.inl ⟨by rfl, ?_⟩) hS2 ?_); rotate_left; (focus (intro w' hSw; go_simp; (try with_reducible rfl))); (try simp only [Act.put, List.getElem_toArray, List.getElem_cons_zero, List.getElem_cons_succ, List.setIfInBounds_toArray, List.set_cons_zero, List.set_cons_succ])
                        refine wpAnyH_done (by kernel_rfl) ?_ _
                        clear hS2 CY CW S1 UX UY
                        generalize x.can = x' at *
                        generalize y.can = y' at *
                        obtain ⟨k1, i1, b1, t1, r1⟩ := x'
                        obtain ⟨k2, i2, b2, t2, r2⟩ := y'
                        simp only [Pl.v] at er eg
                        obtain ⟨p0, p1, p2, p3, p4, _⟩ := b8.cx
                        obtain ⟨q0, q1, q2, q3, q4, _⟩ := b8.cy
                        simp only [] at p0 p1 p2 p3 p4 q0 q1 q2 q3 q4
                        clear b8
                        go_wp2
                        go_roundw
                        case rel => exact ⟨b + 1, K2, by omega, by go_num, SV.out⟩
                        case measure => simp [intOf]; omega
                      · skip
                        go_simp
                        refine hK.out _ _ trivial (fun _ => ?_)
                        clear hK K
                        (try simp only [Act.put, List.getElem_toArray, List.getElem_cons_zero, List.getElem_cons_succ, List.setIfInBounds_toArray, List.set_cons_zero, List.set_cons_succ])
                        refine wpAnyH_ready (rs := [2]) (by kernel_rfl) (by simp) ?_
                        refine AllReadyH.cons rfl (fun K hK => ?_) AllReadyH.nil
                        go_simp
                        refine (cF _).mono ?_
                        rintro e w' ⟨rfl, hw⟩
                        (have hw' := hw.symm); subst hw'; clear hw
                        refine hK.out _ _ trivial (fun _ => ?_)
                        clear hK K
                        (try simp only [Act.put, List.getElem_toArray, List.getElem_cons_zero, List.getElem_cons_succ, List.setIfInBounds_toArray, List.set_cons_zero, List.set_cons_succ])
                        (refine wpAnyH_take (i := 6) (v := ?_) rfl (by kernel_rfl) (by kernel_rfl) (by kernel_rfl) (fun _ _ _ h => h) (Or.inl ⟨by rfl, ?_⟩) trivial ?_); rotate_left; (focus (intro w' hSw; go_simp; (try with_reducible rfl))); (try simp only [Act.put, List.getElem_toArray, List.getElem_cons_zero, List.getElem_cons_succ, List.setIfInBounds_toArray, List.set_cons_zero, List.set_cons_succ])
                        refine wpAnyH_ready (rs := [5]) (by kernel_rfl) (by simp) ?_
                        refine AllReadyH.cons rfl (fun K hK => ?_) AllReadyH.nil
                        go_simp
                        refine (cG _).mono ?_
                        rintro e w' ⟨rfl, hw⟩
                        (have hw' := hw.symm); subst hw'; clear hw
                        refine hK.out _ _ trivial (fun _ => ?_)
                        clear hK K
                        (try simp only [Act.put, List.getElem_toArray, List.getElem_cons_zero, List.getElem_cons_succ, List.setIfInBounds_toArray, List.set_cons_zero, List.set_cons_succ])
                        refine wpAnyH_ready (rs := [7]) (by kernel_rfl) (by simp) ?_
                        refine AllReadyH.cons rfl (fun K hK => ?_) AllReadyH.nil
                        go_simp
                        have b5 := B4.out.setx (fltW x.bi)
                        generalize World.setCell We ⟨wr.heap.size, 2, none⟩ (.int .u64 (fltW x.bi)) = Wf at *
                        refine hK.out _ _ trivial (fun _ => ?_)
                        clear hK K B4 p0 p1 p2 p3 p4 pz r0 r1 r2 r3 r4 rz
                        (try simp only [Act.put, List.getElem_toArray, List.getElem_cons_zero, List.getElem_cons_succ, List.setIfInBounds_toArray, List.set_cons_zero, List.set_cons_succ])
                        have B5 := hid b5
                        obtain ⟨r0, r1, r2, r3, r4, rz⟩ := b5.cy
                        clear b5
                        (refine wpAnyH_take (i := 8) (v := ?_) rfl (by kernel_rfl) (by kernel_rfl) (by kernel_rfl) (fun _ _ _ h => h) (Or.inl ⟨by rfl, ?_⟩) trivial ?_); rotate_left; (focus (intro w' hSw; go_simp; (try with_reducible rfl))); (try simp only [Act.put, List.getElem_toArray, List.getElem_cons_zero, List.getElem_cons_succ, List.setIfInBounds_toArray, List.set_cons_zero, List.set_cons_succ])
                        refine wpAnyH_ready (rs := [9]) (by kernel_rfl) (by simp) ?_
                        refine AllReadyH.cons rfl (fun K hK => ?_) AllReadyH.nil
                        go_simp
                        have b6 : Bx wr (World.setCell Wf ⟨Wa.heap.size, 2, none⟩ (.int .u64 (fltW y.bi))) wr.heap.size Wa.heap.size x.can y.can := B5.out.sety (fltW y.bi)
                        generalize World.setCell Wf ⟨Wa.heap.size, 2, none⟩ (.int .u64 (fltW y.bi)) = Wg at *
                        refine hK.out _ _ trivial (fun _ => ?_)
                        clear hK K B5 r0 r1 r2 r3 r4 rz hS cF cG
                        (try simp only [Act.put, List.getElem_toArray, List.getElem_cons_zero, List.getElem_cons_succ, List.setIfInBounds_toArray, List.set_cons_zero, List.set_cons_succ])
                        refine wpAnyH_done (by kernel_rfl) ?_ _
                        have B6 := hid b6
                        clear b6
                        go_upto_region 31 with fail
                        refine wp_region_held_drew (S := fun w' => Below wr.heap.size wr w') (by kernel_rfl) B6.out.bel.drew ?_
                        intro hS
                        have cS := same_any (S1.out.below' hS).q wa wb' x y UX.out UY.out
                        have er := eq_run x.can y.can
                        have eg := eq_guard x.can y.can
                        have b7 := B6.out.drew
                        clear B6
                        generalize Wg.drew = Wh at *
                        have B7 := hid b7
                        clear b7
                        generalize eqP x.can y.can = r at *
                        (refine wpAnyH_take (i := 0) (v := ?_) rfl (by kernel_rfl) (by kernel_rfl) (by kernel_rfl) (fun _ _ _ h => h) (Or.inl ⟨by rfl, ?_⟩) hS ?_); rotate_left; (focus (intro w' hSw; obtain ⟨c0, c1⟩ := CW.out w' hSw; go_simp; (try with_reducible rfl))); (try simp only [Act.put, List.getElem_toArray, List.getElem_cons_zero, List.getElem_cons_succ, List.setIfInBounds_toArray, List.set_cons_zero, List.set_cons_succ])
                        (refine wpAnyH_take (i := 1) (v := ?_) rfl (by kernel_rfl) (by kernel_rfl) (by kernel_rfl) (fun _ _ _ h => h) (Or.inl ⟨by rfl, ?_⟩) hS ?_); rotate_left; (focus (intro w' hSw; obtain ⟨c0, c1⟩ := CW.out w' hSw; go_simp; (try with_reducible rfl))); (try simp only [Act.put, List.getElem_toArray, List.getElem_cons_zero, List.getElem_cons_succ, List.setIfInBounds_toArray, List.set_cons_zero, List.set_cons_succ])
                        (refine wpAnyH_take (i := 2) (v := ?_) rfl (by kernel_rfl) (by kernel_rfl) (by kernel_rfl) (fun _ _ _ h => h) (Or.inl ⟨by rfl, ?_⟩) hS ?_); rotate_left; (focus (intro w' hSw; obtain ⟨c0, c1⟩ := CW.out w' hSw; go_simp; (try with_reducible rfl))); (try simp only [Act.put, List.getElem_toArray, List.getElem_cons_zero, List.getElem_cons_succ, List.setIfInBounds_toArray, List.set_cons_zero, List.set_cons_succ])
                        (refine wpAnyH_take (i := 3) (v := ?_) rfl (by kernel_rfl) (by kernel_rfl) (by kernel_rfl) (fun _ _ _ h => h) (Or.inl ⟨by rfl, ?_⟩) hS ?_); rotate_left; (focus (intro w' hSw; obtain ⟨c0, c1⟩ := CW.out w' hSw; go_simp; (try with_reducible rfl))); (try simp only [Act.put, List.getElem_toArray, List.getElem_cons_zero, List.getElem_cons_succ, List.setIfInBounds_toArray, List.set_cons_zero, List.set_cons_succ])
                        (refine wpAnyH_take (i := 4) (v := ?_) rfl (by kernel_rfl) (by kernel_rfl) (by kernel_rfl) (fun _ _ _ h => h) (Or.inl ⟨by rfl, ?_⟩) hS ?_); rotate_left; (focus (intro w' hSw; obtain ⟨c0, c1⟩ := CW.out w' hSw; go_simp; (try with_reducible rfl))); (try simp only [Act.put, List.getElem_toArray, List.getElem_cons_zero, List.getElem_cons_succ, List.setIfInBounds_toArray, List.set_cons_zero, List.set_cons_succ])
                        (refine wpAnyH_take (i := 5) (v := ?_) rfl (by kernel_rfl) (by kernel_rfl) (by kernel_rfl) (fun _ _ _ h => h) (Or.inl ⟨by rfl, ?_⟩) hS ?_); rotate_left; (focus (intro w' hSw; obtain ⟨c0, c1⟩ := CW.out w' hSw; go_simp; (try with_reducible rfl))); (try simp only [Act.put, List.getElem_toArray, List.getElem_cons_zero, List.getElem_cons_succ, List.setIfInBounds_toArray, List.set_cons_zero, List.set_cons_succ])
                        (refine wpAnyH_take (i := 6) (v := ?_) rfl (by kernel_rfl) (by kernel_rfl) (by kernel_rfl) (fun _ _ _ h => h) (Or.inl ⟨by rfl, ?_⟩) hS ?_); rotate_left; (focus (intro w' hSw; obtain ⟨c0, c1⟩ := CW.out w' hSw; go_simp; (try with_reducible rfl))); (try simp only [Act.put, List.getElem_toArray, List.getElem_cons_zero, List.getElem_cons_succ, List.setIfInBounds_toArray, List.set_cons_zero, List.set_cons_succ])
                        (refine wpAnyH_take (i := 7) (v := ?_) rfl (by kernel_rfl) (by kernel_rfl) (by kernel_rfl) (fun _ _ _ h => h) (Or.inl ⟨by rfl, ?_⟩) hS ?_); rotate_left; (focus (intro w' hSw; obtain ⟨c0, c1⟩ := CW.out w' hSw; go_simp; (try with_reducible rfl))); (try simp only [Act.put, List.getElem_toArray, List.getElem_cons_zero, List.getElem_cons_succ, List.setIfInBounds_toArray, List.set_cons_zero, List.set_cons_succ])
                        (refine wpAnyH_take (i := 8) (v := ?_) rfl (by kernel_rfl) (by kernel_rfl) (by kernel_rfl) (fun _ _ _ h => h) (Or.inl ⟨by rfl, ?_⟩) hS ?_); rotate_left; (focus (intro w' hSw; obtain ⟨c0, c1⟩ := CW.out w' hSw; go_simp; (try with_reducible rfl))); (try simp only [Act.put, List.getElem_toArray, List.getElem_cons_zero, List.getElem_cons_succ, List.setIfInBounds_toArray, List.set_cons_zero, List.set_cons_succ])
                        refine wpAnyH_ready (rs := [9]) (by kernel_rfl) (by simp) ?_
                        refine AllReadyH.cons rfl (fun K hK => ?_) AllReadyH.nil
                        go_simp
                        refine cS.mono ?_
                        rintro e Wi ⟨rfl, hB⟩
                        have b8 := B7.out.on hB
                        refine hK.out _ _ b8.bel (fun hS2 => ?_)
                        clear hK K cS B7 hS hB
                        (try simp only [Act.put, List.getElem_toArray, List.getElem_cons_zero, List.getElem_cons_succ, List.setIfInBounds_toArray, List.set_cons_zero, List.set_cons_succ])
                        have SV := hid (S1.out.below' hS2)
                        (refine wpAnyH_take (i := 10) (v := ?_) rfl (by kernel_rfl) (by kernel_rfl) (by kernel_rfl) (fun _ _ _ h => h) (Or.inl ⟨by rfl, ?_⟩) hS2 ?_); rotate_left; (focus (intro w' hSw; go_simp; (try with_reducible rfl))); (try simp only [Act.put, List.getElem_toArray, List.getElem_cons_zero, List.getElem_cons_succ, List.setIfInBounds_toArray, List.set_cons_zero, List.set_cons_succ])
                        (refine wpAnyH_take (i := 11) (v := ?_) rfl (by kernel_rfl) (by kernel_rfl) (by kernel_rfl) (fun _ _ _ h => h) (Or.inl ⟨by rfl, ?_⟩) hS2 ?_); rotate_left; (focus (intro w' hSw; go_simp; (try with_reducible rfl))); (try simp only [Act.put, List.getElem_toArray, List.getElem_cons_zero, List.getElem_cons_succ, List.setIfInBounds_toArray, List.set_cons_zero, List.set_cons_succ])
                        (refine wpAnyH_take (i := 12) (v := ?_) rfl (by kernel_rfl) (by kernel_rfl) (by kernel_rfl) (fun _ _ _ h => h) (Or.inl ⟨by rfl, ?_⟩) hS2 ?_); rotate_left; (focus (intro w' hSw; go_simp; (try with_reducible rfl))); (try simp only [Act.put, List.getElem_toArray, List.getElem_cons_zero, List.getElem_cons_succ, List.setIfInBounds_toArray, List.set_cons_zero, List.set_cons_succ])
                        (refine wpAnyH_take (i := 13) (v := ?_) rfl (by kernel_rfl) (by kernel_rfl) (by kernel_rfl) (fun _ _ _ h => h) (Or.inl ⟨by rfl, ?_⟩) hS2 ?_); rotate_left; (focus (intro w' hSw; go_simp; (try with_reducible rfl))); (try simp only [Act.put, List.getElem_toArray, List.getElem_cons_zero, List.getElem_cons_succ, List.setIfInBounds_toArray, List.set_cons_zero, List.set_cons_succ])
                        (refine wpAnyH_take (i := 14) (v := ?_) rfl (by kernel_rfl) (by kernel_rfl) (by kernel_rfl) (fun _ _ _ h => h) (Or.inl ⟨by rfl, ?_⟩) hS2 ?_); rotate_left; (focus (intro w' hSw; go_simp; (try with_reducible rfl))); (try simp only [Act.put, List.getElem_toArray, List.getElem_cons_zero, List.getElem_cons_succ, List.setIfInBounds_toArray, List.set_cons_zero, List.set_cons_succ])
                        refine wpAnyH_done (by kernel_rfl) ?_ _
                        clear hS2 CY CW S1 UX UY
                        generalize x.can = x' at *
                        generalize y.can = y' at *
                        obtain ⟨k1, i1, b1, t1, r1⟩ := x'
                        obtain ⟨k2, i2, b2, t2, r2⟩ := y'
                        simp only [Pl.v] at er eg
                        obtain ⟨p0, p1, p2, p3, p4, _⟩ := b8.cx
                        obtain ⟨q0, q1, q2, q3, q4, _⟩ := b8.cy
                        simp only [] at p0 p1 p2 p3 p4 q0 q1 q2 q3 q4
                        clear b8
                        go_wp2
                        go_roundw
                        case rel => exact ⟨b + 1, K2, by omega, by go_num, SV.out⟩
                        case measure => simp [intOf]; omega
                    · skip
                      go_simp
                      refine hK.out _ _ trivial (fun _ => ?_)
                      clear hK K
                      (try simp only [Act.put, List.getElem_toArray, List.getElem_cons_zero, List.getElem_cons_succ, List.setIfInBounds_toArray, List.set_cons_zero, List.set_cons_succ])
                      refine wpAnyH_ready (rs := [1]) (by kernel_rfl) (by simp) ?_
                      refine AllReadyH.cons rfl (fun K hK => ?_) AllReadyH.nil
                      go_simp
                      refine hK.out _ _ trivial (fun _ => ?_)
                      clear hK K
                      (try simp only [Act.put, List.getElem_toArray, List.getElem_cons_zero, List.getElem_cons_succ, List.setIfInBounds_toArray, List.set_cons_zero, List.set_cons_succ])
                      refine wpAnyH_ready (rs := [2]) (by kernel_rfl) (by simp) ?_
                      refine AllReadyH.cons rfl (fun K hK => ?_) AllReadyH.nil
                      go_simp
                      refine (cF _).mono ?_
                      rintro e w' ⟨rfl, hw⟩
                      (have hw' := hw.symm); subst hw'; clear hw
                      refine hK.out _ _ trivial (fun _ => ?_)
                      clear hK K
                      (try simp only [Act.put, List.getElem_toArray, List.getElem_cons_zero, List.getElem_cons_succ, List.setIfInBounds_toArray, List.set_cons_zero, List.set_cons_succ])
                      (refine wpAnyH_take (i := 6) (v := ?_) rfl (by kernel_rfl) (by kernel_rfl) (by kernel_rfl) (fun _ _ _ h => h) (Or.inl ⟨by rfl, ?_⟩) trivial ?_); rotate_left; (focus (intro w' hSw; go_simp; (try with_reducible rfl))); (try simp only [Act.put, List.getElem_toArray, List.getElem_cons_zero, List.getElem_cons_succ, List.setIfInBounds_toArray, List.set_cons_zero, List.set_cons_succ])
                      refine wpAnyH_ready (rs := [5]) (by kernel_rfl) (by simp) ?_
                      refine AllReadyH.cons rfl (fun K hK => ?_) AllReadyH.nil
                      go_simp
                      refine (cG _).mono ?_
                      rintro e w' ⟨rfl, hw⟩
                      (have hw' := hw.symm); subst hw'; clear hw
                      refine hK.out _ _ trivial (fun _ => ?_)
                      clear hK K
                      (try simp only [Act.put, List.getElem_toArray, List.getElem_cons_zero, List.getElem_cons_succ, List.setIfInBounds_toArray, List.set_cons_zero, List.set_cons_succ])
                      refine wpAnyH_ready (rs := [7]) (by kernel_rfl) (by simp) ?_
                      refine AllReadyH.cons rfl (fun K hK => ?_) AllReadyH.nil
                      go_simp
                      have b5 := B4.out.setx (fltW x.bi)
                      generalize World.setCell We ⟨wr.heap.size, 2, none⟩ (.int .u64 (fltW x.bi)) = Wf at *
                      refine hK.out _ _ trivial (fun _ => ?_)
                      clear hK K B4 p0 p1 p2 p3 p4 pz r0 r1 r2 r3 r4 rz
                      (try simp only [Act.put, List.getElem_toArray, List.getElem_cons_zero, List.getElem_cons_succ, List.setIfInBounds_toArray, List.set_cons_zero, List.set_cons_succ])
                      have B5 := hid b5
                      obtain ⟨r0, r1, r2, r3, r4, rz⟩ := b5.cy
                      clear b5
                      (refine wpAnyH_take (i := 8) (v := ?_) rfl (by kernel_rfl) (by kernel_rfl) (by kernel_rfl) (fun _ _ _ h => h) (Or.inl ⟨by rfl, ?_⟩) trivial ?_); rotate_left; (focus (intro w' hSw; go_simp; (try with_reducible rfl))); (try simp only [Act.put, List.getElem_toArray, List.getElem_cons_zero, List.getElem_cons_succ, List.setIfInBounds_toArray, List.set_cons_zero, List.set_cons_succ])
                      refine wpAnyH_ready (rs := [9]) (by kernel_rfl) (by simp) ?_
                      refine AllReadyH.cons rfl (fun K hK => ?_) AllReadyH.nil
                      go_simp
                      have b6 : Bx wr (World.setCell Wf ⟨Wa.heap.size, 2, none⟩ (.int .u64 (fltW y.bi))) wr.heap.size Wa.heap.size x.can y.can := B5.out.sety (fltW y.bi)
                      generalize World.setCell Wf ⟨Wa.heap.size, 2, none⟩ (.int .u64 (fltW y.bi)) = Wg at *
                      refine hK.out _ _ trivial (fun _ => ?_)
                      clear hK K B5 r0 r1 r2 r3 r4 rz hS cF cG
                      (try simp only [Act.put, List.getElem_toArray, List.getElem_cons_zero, List.getElem_cons_succ, List.setIfInBounds_toArray, List.set_cons_zero, List.set_cons_succ])
                      refine wpAnyH_done (by kernel_rfl) ?_ _
                      have B6 := hid b6
                      clear b6
                      go_upto_region 31 with fail
                      refine wp_region_held_drew (S := fun w' => Below wr.heap.size wr w') (by kernel_rfl) B6.out.bel.drew ?_
                      intro hS
                      have cS := same_any (S1.out.below' hS).q wa wb' x y UX.out UY.out
                      have er := eq_run x.can y.can
                      have eg := eq_guard x.can y.can
                      have b7 := B6.out.drew
                      clear B6
                      generalize Wg.drew = Wh at *
                      have B7 := hid b7
                      clear b7
                      generalize eqP x.can y.can = r at *
                      (refine wpAnyH_take (i := 0) (v := ?_) rfl (by kernel_rfl) (by kernel_rfl) (by kernel_rfl) (fun _ _ _ h => h) (Or.inl ⟨by rfl, ?_⟩) hS ?_); rotate_left; (focus (intro w' hSw; obtain ⟨c0, c1⟩ := CW.out w' hSw; go_simp; (try with_reducible rfl))); (try simp only [Act.put, List.getElem_toArray, List.getElem_cons_zero, List.getElem_cons_succ, List.setIfInBounds_toArray, List.set_cons_zero, List.set_cons_succ])
                      (refine wpAnyH_take (i := 1) (v := ?_) rfl (by kernel_rfl) (by kernel_rfl) (by kernel_rfl) (fun _ _ _ h => h) (Or.inl ⟨by rfl, ?_⟩) hS ?_); rotate_left; (focus (intro w' hSw; obtain ⟨c0, c1⟩ := CW.out w' hSw; go_simp; (try with_reducible rfl))); (try simp only [Act.put, List.getElem_toArray, List.getElem_cons_zero, List.getElem_cons_succ, List.setIfInBounds_toArray, List.set_cons_zero, List.set_cons_succ])
                      (refine wpAnyH_take (i := 2) (v := ?_) rfl (by kernel_rfl) (by kernel_rfl) (by kernel_rfl) (fun _ _ _ h => h) (Or.inl ⟨by rfl, ?_⟩) hS ?_); rotate_left; (focus (intro w' hSw; obtain ⟨c0, c1⟩ := CW.out w' hSw; go_simp; (try with_reducible rfl))); (try simp only [Act.put, List.getElem_toArray, List.getElem_cons_zero, List.getElem_cons_succ, List.setIfInBounds_toArray, List.set_cons_zero, List.set_cons_succ])
                      (refine wpAnyH_take (i := 3) (v := ?_) rfl (by kernel_rfl) (by kernel_rfl) (by kernel_rfl) (fun _ _ _ h => h) (Or.inl ⟨by rfl, ?_⟩) hS ?_); rotate_left; (focus (intro w' hSw; obtain ⟨c0, c1⟩ := CW.out w' hSw; go_simp; (try with_reducible rfl))); (try simp only [Act.put, List.getElem_toArray, List.getElem_cons_zero, List.getElem_cons_succ, List.setIfInBounds_toArray, List.set_cons_zero, List.set_cons_succ])
                      (refine wpAnyH_take (i := 4) (v := ?_) rfl (by kernel_rfl) (by kernel_rfl) (by kernel_rfl) (fun _ _ _ h => h) (Or.inl ⟨by rfl, ?_⟩) hS ?_); rotate_left; (focus (intro w' hSw; obtain ⟨c0, c1⟩ := CW.out w' hSw; go_simp; (try with_reducible rfl))); (try simp only [Act.put, List.getElem_toArray, List.getElem_cons_zero, List.getElem_cons_succ, List.setIfInBounds_toArray, List.set_cons_zero, List.set_cons_succ])
                      (refine wpAnyH_take (i := 5) (v := ?_) rfl (by kernel_rfl) (by kernel_rfl) (by kernel_rfl) (fun _ _ _ h => h) (Or.inl ⟨by rfl, ?_⟩) hS ?_); rotate_left; (focus (intro w' hSw; obtain ⟨c0, c1⟩ := CW.out w' hSw; go_simp; (try with_reducible rfl))); (try simp only [Act.put, List.getElem_toArray, List.getElem_cons_zero, List.getElem_cons_succ, List.setIfInBounds_toArray, List.set_cons_zero, List.set_cons_succ])
                      (refine wpAnyH_take (i := 6) (v := ?_) rfl (by kernel_rfl) (by kernel_rfl) (by kernel_rfl) (fun _ _ _ h => h) (Or.inl ⟨by rfl, ?_⟩) hS ?_); rotate_left; (focus (intro w' hSw; obtain ⟨c0, c1⟩ := CW.out w' hSw; go_simp; (try with_reducible rfl))); (try simp only [Act.put, List.getElem_toArray, List.getElem_cons_zero, List.getElem_cons_succ, List.setIfInBounds_toArray, List.set_cons_zero, List.set_cons_succ])
                      (refine wpAnyH_take (i := 7) (v := ?_) rfl (by kernel_rfl) (by kernel_rfl) (by kernel_rfl) (fun _ _ _ h => h) (Or.inl ⟨by rfl, ?_⟩) hS ?_); rotate_left; (focus (intro w' hSw; obtain ⟨c0, c1⟩ := CW.out w' hSw; go_simp; (try with_reducible rfl))); (try simp only [Act.put, List.getElem_toArray, List.getElem_cons_zero, List.getElem_cons_succ, List.setIfInBounds_toArray, List.set_cons_zero, List.set_cons_succ])
                      (refine wpAnyH_take (i := 8) (v := ?_) rfl (by kernel_rfl) (by kernel_rfl) (by kernel_rfl) (fun _ _ _ h => h) (Or.inl ⟨by rfl, ?_⟩) hS ?_); rotate_left; (focus (intro w' hSw; obtain ⟨c0, c1⟩ := CW.out w' hSw; go_simp; (try with_reducible rfl))); (try simp only [Act.put, List.getElem_toArray, List.getElem_cons_zero, List.getElem_cons_succ, List.setIfInBounds_toArray, List.set_cons_zero, List.set_cons_succ])
                      refine wpAnyH_ready (rs := [9]) (by kernel_rfl) (by simp) ?_
                      refine AllReadyH.cons rfl (fun K hK => ?_) AllReadyH.nil
                      go_simp
                      refine cS.mono ?_
                      rintro e Wi ⟨rfl, hB⟩
                      have b8 := B7.out.on hB
                      refine hK.out _ _ b8.bel (fun hS2 => ?_)
                      clear hK K cS B7 hS hB
                      (try simp only [Act.put, List.getElem_toArray, List.getElem_cons_zero, List.getElem_cons_succ, List.setIfInBounds_toArray, List.set_cons_zero, List.set_cons_succ])
                      have SV := hid (S1.out.below' hS2)
                      (refine wpAnyH_take (i := 10) (v := ?_) rfl (by kernel_rfl) (by kernel_rfl) (by kernel_rfl) (fun _ _ _ h => h) (Or.inl ⟨by rfl, ?_⟩) hS2 ?_); rotate_left; (focus (intro w' hSw; go_simp; (try with_reducible rfl))); (try simp only [Act.put, List.getElem_toArray, List.getElem_cons_zero, List.getElem_cons_succ, List.setIfInBounds_toArray, List.set_cons_zero, List.set_cons_succ])
                      (refine wpAnyH_take (i := 11) (v := ?_) rfl (by kernel_rfl) (by kernel_rfl) (by kernel_rfl) (fun _ _ _ h => h) (Or.inl ⟨by rfl, ?_⟩) hS2 ?_); rotate_left; (focus (intro w' hSw; go_simp; (try with_reducible rfl))); (try simp only [Act.put, List.getElem_toArray, List.getElem_cons_zero, List.getElem_cons_succ, List.setIfInBounds_toArray, List.set_cons_zero, List.set_cons_succ])
                      (refine wpAnyH_take (i := 12) (v := ?_) rfl (by kernel_rfl) (by kernel_rfl) (by kernel_rfl) (fun _ _ _ h => h) (Or.inl ⟨by rfl, ?_⟩) hS2 ?_); rotate_left; (focus (intro w' hSw; go_simp; (try with_reducible rfl))); (try simp only [Act.put, List.getElem_toArray, List.getElem_cons_zero, List.getElem_cons_succ, List.setIfInBounds_toArray, List.set_cons_zero, List.set_cons_succ])
                      (refine wpAnyH_take (i := 13) (v := ?_) rfl (by kernel_rfl) (by kernel_rfl) (by kernel_rfl) (fun _ _ _ h => h) (Or.inl ⟨by rfl, ?_⟩) hS2 ?_); rotate_left; (focus (intro w' hSw; go_simp; (try with_reducible rfl))); (try simp only [Act.put, List.getElem_toArray, List.getElem_cons_zero, List.getElem_cons_succ, List.setIfInBounds_toArray, List.set_cons_zero, List.set_cons_succ])
                      (refine wpAnyH_take (i := 14) (v := ?_) rfl (by kernel_rfl) (by kernel_rfl) (by kernel_rfl) (fun _ _ _ h => h) (Or.inl ⟨by rfl, ?_⟩) hS2 ?_); rotate_left; (focus (intro w' hSw; go_simp; (try with_reducible rfl))); (try simp only [Act.put, List.getElem_toArray, List.getElem_cons_zero, List.getElem_cons_succ, List.setIfInBounds_toArray, List.set_cons_zero, List.set_cons_succ])
                      refine wpAnyH_done (by kernel_rfl) ?_ _
                      clear hS2 CY CW S1 UX UY
                      generalize x.can = x' at *
                      generalize y.can = y' at *
                      obtain ⟨k1, i1, b1, t1, r1⟩ := x'
                      obtain ⟨k2, i2, b2, t2, r2⟩ := y'
                      simp only [Pl.v] at er eg
                      obtain ⟨p0, p1, p2, p3, p4, _⟩ := b8.cx
                      obtain ⟨q0, q1, q2, q3, q4, _⟩ := b8.cy
                      simp only [] at p0 p1 p2 p3 p4 q0 q1 q2 q3 q4
                      clear b8
                      go_wp2
                      go_roundw
                      case rel => exact ⟨b + 1, K2, by omega, by go_num, SV.out⟩
                      case measure => simp [intOf]; omega
                  · go_simp
                    have za : Below wr.heap.size wr (wr.alloc (.cells #[.int .i64 0, .int .i64 0, .int .u64 0, .string ⟨#[]⟩, .int .u64 0] 40)).drew := ((Below.refl _ wr).alloc (Nat.le_refl _) _).drew
                    have zb : (wr.alloc (.cells #[.int .i64 0, .int .i64 0, .int .u64 0, .string ⟨#[]⟩, .int .u64 0] 40)).drew.heap[wr.heap.size]? = some (.cells #[.int .i64 0, .int .i64 0, .int .u64 0, .string ⟨#[]⟩, .int .u64 0] 40 (0, 0)) := World.alloc_heap_new wr _
                    generalize (wr.alloc (.cells #[.int .i64 0, .int .i64 0, .int .u64 0, .string ⟨#[]⟩, .int .u64 0] 40)).drew = Wa at *
                    refine hK.out _ _ za (fun _ => ?_)
                    clear hK K
                    (try simp only [Act.put, List.getElem_toArray, List.getElem_cons_zero, List.getElem_cons_succ, List.setIfInBounds_toArray, List.set_cons_zero, List.set_cons_succ])
                    refine wpAnyH_ready (rs := [8]) (by kernel_rfl) (by simp) ?_
                    refine AllReadyH.cons rfl (fun K hK => ?_) AllReadyH.nil
                    go_simp
                    have bx := bx_next za zb
                    generalize Wa.alloc (.cells #[.int .i64 0, .int .i64 0, .int .u64 0, .string ⟨#[]⟩, .int .u64 0] 40) = Wb at *
                    refine hK.out _ _ bx.bel (fun _ => ?_)
                    clear hK K za zb
                    (try simp only [Act.put, List.getElem_toArray, List.getElem_cons_zero, List.getElem_cons_succ, List.setIfInBounds_toArray, List.set_cons_zero, List.set_cons_succ])
                    replace bx := bx.swap
                    have B1 := hid bx
                    have p0 : Wb.cell? ⟨Wa.heap.size, 0, none⟩ = some (.int .i64 0) := bx.cx.1
                    have p1 : Wb.cell? ⟨Wa.heap.size, 1, none⟩ = some (.int .i64 0) := bx.cx.2.1
                    have p2 : Wb.cell? ⟨Wa.heap.size, 2, none⟩ = some (.int .u64 0) := bx.cx.2.2.1
                    have p3 : Wb.cell? ⟨Wa.heap.size, 3, none⟩ = some (.string ⟨#[]⟩) := bx.cx.2.2.2.1
                    have p4 : Wb.cell? ⟨Wa.heap.size, 4, none⟩ = some (.int .u64 0) := bx.cx.2.2.2.2.1
                    have pz : ∀ j, Wb.frozen? ⟨Wa.heap.size, j, none⟩ = false := bx.cx.2.2.2.2.2
                    clear bx
                    refine wpAnyH_ready (rs := [10]) (by kernel_rfl) (by simp) ?_
                    refine AllReadyH.cons rfl (fun K hK => ?_) AllReadyH.nil
                    go_simp
                    have b2 := B1.out.putx x
                    unfold put5 at b2
                    generalize ((((World.setCell Wb ⟨Wa.heap.size, 0, none⟩ (.int .i64 x.kd)).setCell ⟨Wa.heap.size, 1, none⟩ (.int .i64 x.i)).setCell ⟨Wa.heap.size, 2, none⟩ (.int .u64 x.bi)).setCell ⟨Wa.heap.size, 3, none⟩ (.string x.t)).setCell ⟨Wa.heap.size, 4, none⟩ (.int .u64 x.re) = Wc at *
                    refine hK.out _ _ b2.bel (fun _ => ?_)
                    clear hK K p0 p1 p2 p3 p4 pz B1
                    (try simp only [Act.put, List.getElem_toArray, List.getElem_cons_zero, List.getElem_cons_succ, List.setIfInBounds_toArray, List.set_cons_zero, List.set_cons_succ])
                    have B2 := hid b2
                    have p0 : Wc.cell? ⟨wr.heap.size, 0, none⟩ = some (.int .i64 0) := b2.cy.1
                    have p1 : Wc.cell? ⟨wr.heap.size, 1, none⟩ = some (.int .i64 0) := b2.cy.2.1
                    have p2 : Wc.cell? ⟨wr.heap.size, 2, none⟩ = some (.int .u64 0) := b2.cy.2.2.1
                    have p3 : Wc.cell? ⟨wr.heap.size, 3, none⟩ = some (.string ⟨#[]⟩) := b2.cy.2.2.2.1
                    have p4 : Wc.cell? ⟨wr.heap.size, 4, none⟩ = some (.int .u64 0) := b2.cy.2.2.2.2.1
                    have pz : ∀ j, Wc.frozen? ⟨wr.heap.size, j, none⟩ = false := b2.cy.2.2.2.2.2
                    clear b2
                    refine wpAnyH_ready (rs := [11]) (by kernel_rfl) (by simp) ?_
                    refine AllReadyH.cons rfl (fun K hK => ?_) AllReadyH.nil
                    go_simp
                    have b3 := B2.out.puty y
                    unfold put5 at b3
                    generalize ((((World.setCell Wc ⟨wr.heap.size, 0, none⟩ (.int .i64 y.kd)).setCell ⟨wr.heap.size, 1, none⟩ (.int .i64 y.i)).setCell ⟨wr.heap.size, 2, none⟩ (.int .u64 y.bi)).setCell ⟨wr.heap.size, 3, none⟩ (.string y.t)).setCell ⟨wr.heap.size, 4, none⟩ (.int .u64 y.re) = Wd at *
                    refine hK.out _ _ b3.bel (fun _ => ?_)
                    clear hK K p0 p1 p2 p3 p4 pz B2
                    (try simp only [Act.put, List.getElem_toArray, List.getElem_cons_zero, List.getElem_cons_succ, List.setIfInBounds_toArray, List.set_cons_zero, List.set_cons_succ])
                    refine wpAnyH_done (by kernel_rfl) ?_ _
                    clear hS
                    have B3 := hid b3
                    clear b3
                    go_upto_region 30 with fail
                    refine wp_region_held_drew (S := fun _ => True) (by kernel_rfl) trivial ?_
                    intro hS
                    have b4 := B3.out.drew
                    clear B3
                    generalize Wd.drew = We at *
                    have B4 := hid b4
                    have cF := refFromFloat_c x.bi UX.out.bits.1 UX.out.bits.2
                    have cG := refFromFloat_c y.bi UY.out.bits.1 UY.out.bits.2
                    obtain ⟨p0, p1, p2, p3, p4, pz⟩ := b4.cx
                    obtain ⟨r0, r1, r2, r3, r4, rz⟩ := b4.cy
                    clear b4
                    (refine wpAnyH_take (i := 0) (v := ?_) rfl (by kernel_rfl) (by kernel_rfl) (by kernel_rfl) (fun _ _ _ h => h) (Or.inl ⟨by rfl, ?_⟩) trivial ?_); rotate_left; (focus (intro w' hSw; go_simp; (try with_reducible rfl))); (try simp only [Act.put, List.getElem_toArray, List.getElem_cons_zero, List.getElem_cons_succ, List.setIfInBounds_toArray, List.set_cons_zero, List.set_cons_succ])
                    (refine wpAnyH_take (i := 3) (v := ?_) rfl (by kernel_rfl) (by kernel_rfl) (by kernel_rfl) (fun _ _ _ h => h) (Or.inl ⟨by rfl, ?_⟩) trivial ?_); rotate_left; (focus (intro w' hSw; go_simp; (try with_reducible rfl))); (try simp only [Act.put, List.getElem_toArray, List.getElem_cons_zero, List.getElem_cons_succ, List.setIfInBounds_toArray, List.set_cons_zero, List.set_cons_succ])
                    refine wpAnyH_ready (rs := [1, 4]) (by kernel_rfl) (by simp) ?_
                    refine AllReadyH.cons rfl (fun K hK => ?_) (AllReadyH.cons rfl (fun K hK => ?_) AllReadyH.nil)
                    · skip
                      go_simp
                      refine hK.out _ _ trivial (fun _ => ?_)
                      clear hK K
                      (try simp only [Act.put, List.getElem_toArray, List.getElem_cons_zero, List.getElem_cons_succ, List.setIfInBounds_toArray, List.set_cons_zero, List.set_cons_succ])
                      refine wpAnyH_ready (rs := [2, 4]) (by kernel_rfl) (by simp) ?_
                      refine AllReadyH.cons rfl (fun K hK => ?_) (AllReadyH.cons rfl (fun K hK => ?_) AllReadyH.nil)
                      · skip
                        go_simp
                        refine (cF _).mono ?_
                        rintro e w' ⟨rfl, hw⟩
                        (have hw' := hw.symm); subst hw'; clear hw
                        refine hK.out _ _ trivial (fun _ => ?_)
                        clear hK K
                        (try simp only [Act.put, List.getElem_toArray, List.getElem_cons_zero, List.getElem_cons_succ, List.setIfInBounds_toArray, List.set_cons_zero, List.set_cons_succ])
                        (refine wpAnyH_take (i := 6) (v := ?_) rfl (by kernel_rfl) (by kernel_rfl) (by kernel_rfl) (fun _ _ _ h => h) (Or.inl ⟨by rfl, ?_⟩) trivial ?_); rotate_left; (focus (intro w' hSw; go_simp; (try with_reducible rfl))); (try simp only [Act.put, List.getElem_toArray, List.getElem_cons_zero, List.getElem_cons_succ, List.setIfInBounds_toArray, List.set_cons_zero, List.set_cons_succ])
                        refine wpAnyH_ready (rs := [4]) (by kernel_rfl) (by simp) ?_
                        refine AllReadyH.cons rfl (fun K hK => ?_) AllReadyH.nil
                        go_simp
                        refine hK.out _ _ trivial (fun _ => ?_)
                        clear hK K
                        (try simp only [Act.put, List.getElem_toArray, List.getElem_cons_zero, List.getElem_cons_succ, List.setIfInBounds_toArray, List.set_cons_zero, List.set_cons_succ])
                        refine wpAnyH_ready (rs := [5]) (by kernel_rfl) (by simp) ?_
                        refine AllReadyH.cons rfl (fun K hK => ?_) AllReadyH.nil
                        go_simp
                        refine (cG _).mono ?_
                        rintro e w' ⟨rfl, hw⟩
                        (have hw' := hw.symm); subst hw'; clear hw
                        refine hK.out _ _ trivial (fun _ => ?_)
                        clear hK K
                        (try simp only [Act.put, List.getElem_toArray, List.getElem_cons_zero, List.getElem_cons_succ, List.setIfInBounds_toArray, List.set_cons_zero, List.set_cons_succ])
                        refine wpAnyH_ready (rs := [7]) (by kernel_rfl) (by simp) ?_
                        refine AllReadyH.cons rfl (fun K hK => ?_) AllReadyH.nil
                        go_simp
                        have b5 := B4.out.setx (fltW x.bi)
                        generalize World.setCell We ⟨Wa.heap.size, 2, none⟩ (.int .u64 (fltW x.bi)) = Wf at *
                        refine hK.out _ _ trivial (fun _ => ?_)
                        clear hK K B4 p0 p1 p2 p3 p4 pz r0 r1 r2 r3 r4 rz
                        (try simp only [Act.put, List.getElem_toArray, List.getElem_cons_zero, List.getElem_cons_succ, List.setIfInBounds_toArray, List.set_cons_zero, List.set_cons_succ])
                        have B5 := hid b5
                        obtain ⟨r0, r1, r2, r3, r4, rz⟩ := b5.cy
                        clear b5
                        (refine wpAnyH_take (i := 8) (v := ?_) rfl (by kernel_rfl) (by kernel_rfl) (by kernel_rfl) (fun _ _ _ h => h) (Or.inl ⟨by rfl, ?_⟩) trivial ?_); rotate_left; (focus (intro w' hSw; go_simp; (try with_reducible rfl))); (try simp only [Act.put, List.getElem_toArray, List.getElem_cons_zero, List.getElem_cons_succ, List.setIfInBounds_toArray, List.set_cons_zero, List.set_cons_succ])
                        refine wpAnyH_ready (rs := [9]) (by kernel_rfl) (by simp) ?_
                        refine AllReadyH.cons rfl (fun K hK => ?_) AllReadyH.nil
                        go_simp
                        have b6 : Bx wr (World.setCell Wf ⟨wr.heap.size, 2, none⟩ (.int .u64 (fltW y.bi))) Wa.heap.size wr.heap.size x.can y.can := B5.out.sety (fltW y.bi)
                        generalize World.setCell Wf ⟨wr.heap.size, 2, none⟩ (.int .u64 (fltW y.bi)) = Wg at *
                        refine hK.out _ _ trivial (fun _ => ?_)
                        clear hK K B5 r0 r1 r2 r3 r4 rz hS cF cG
                        (try simp only [Act.put, List.getElem_toArray, List.getElem_cons_zero, List.getElem_cons_succ, List.setIfInBounds_toArray, List.set_cons_zero, List.set_cons_succ])
                        refine wpAnyH_done (by kernel_rfl) ?_ _
                        have B6 := hid b6
                        clear b6
                        go_upto_region 31 with fail
                        refine wp_region_held_drew (S := fun w' => Below wr.heap.size wr w') (by kernel_rfl) B6.out.bel.drew ?_
                        intro hS
                        have cS := same_any (S1.out.below' hS).q wa wb' x y UX.out UY.out
                        have er := eq_run x.can y.can
                        have eg := eq_guard x.can y.can
                        have b7 := B6.out.drew
                        clear B6
                        generalize Wg.drew = Wh at *
                        have B7 := hid b7
                        clear b7
                        generalize eqP x.can y.can = r at *
                        (refine wpAnyH_take (i := 0) (v := ?_) rfl (by kernel_rfl) (by kernel_rfl) (by kernel_rfl) (fun _ _ _ h => h) (Or.inl ⟨by rfl, ?_⟩) hS ?_); rotate_left; (focus (intro w' hSw; obtain ⟨c0, c1⟩ := CW.out w' hSw; go_simp; (try with_reducible rfl))); (try simp only [Act.put, List.getElem_toArray, List.getElem_cons_zero, List.getElem_cons_succ, List.setIfInBounds_toArray, List.set_cons_zero, List.set_cons_succ])
                        (refine wpAnyH_take (i := 1) (v := ?_) rfl (by kernel_rfl) (by kernel_rfl) (by kernel_rfl) (fun _ _ _ h => h) (Or.inl ⟨by rfl, ?_⟩) hS ?_); rotate_left; (focus (intro w' hSw; obtain ⟨c0, c1⟩ := CW.out w' hSw; go_simp; (try with_reducible rfl))); (try simp only [Act.put, List.getElem_toArray, List.getElem_cons_zero, List.getElem_cons_succ, List.setIfInBounds_toArray, List.set_cons_zero, List.set_cons_succ])
                        (refine wpAnyH_take (i := 2) (v := ?_) rfl (by kernel_rfl) (by kernel_rfl) (by kernel_rfl) (fun _ _ _ h => h) (Or.inl ⟨by rfl, ?_⟩) hS ?_); rotate_left; (focus (intro w' hSw; obtain ⟨c0, c1⟩ := CW.out w' hSw; go_simp; (try with_reducible rfl))); (try simp only [Act.put, List.getElem_toArray, List.getElem_cons_zero, List.getElem_cons_succ, List.setIfInBounds_toArray, List.set_cons_zero, List.set_cons_succ])
                        (refine wpAnyH_take (i := 3) (v := ?_) rfl (by kernel_rfl) (by kernel_rfl) (by kernel_rfl) (fun _ _ _ h => h) (Or.inl ⟨by rfl, ?_⟩) hS ?_); rotate_left; (focus (intro w' hSw; obtain ⟨c0, c1⟩ := CW.out w' hSw; go_simp; (try with_reducible rfl))); (try simp only [Act.put, List.getElem_toArray, List.getElem_cons_zero, List.getElem_cons_succ, List.setIfInBounds_toArray, List.set_cons_zero, List.set_cons_succ])
                        (refine wpAnyH_take (i := 4) (v := ?_) rfl (by kernel_rfl) (by kernel_rfl) (by kernel_rfl) (fun _ _ _ h => h) (Or.inl ⟨by rfl, ?_⟩) hS ?_); rotate_left; (focus (intro w' hSw; obtain ⟨c0, c1⟩ := CW.out w' hSw; go_simp; (try with_reducible rfl))); (try simp only [Act.put, List.getElem_toArray, List.getElem_cons_zero, List.getElem_cons_succ, List.setIfInBounds_toArray, List.set_cons_zero, List.set_cons_succ])
                        (refine wpAnyH_take (i := 5) (v := ?_) rfl (by kernel_rfl) (by kernel_rfl) (by kernel_rfl) (fun _ _ _ h => h) (Or.inl ⟨by rfl, ?_⟩) hS ?_); rotate_left; (focus (intro w' hSw; obtain ⟨c0, c1⟩ := CW.out w' hSw; go_simp; (try with_reducible rfl))); (try simp only [Act.put, List.getElem_toArray, List.getElem_cons_zero, List.getElem_cons_succ, List.setIfInBounds_toArray, List.set_cons_zero, List.set_cons_succ])
                        (refine wpAnyH_take (i := 6) (v := ?_) rfl (by kernel_rfl) (by kernel_rfl) (by kernel_rfl) (fun _ _ _ h => h) (Or.inl ⟨by rfl, ?_⟩) hS ?_); rotate_left; (focus (intro w' hSw; obtain ⟨c0, c1⟩ := CW.out w' hSw; go_simp; (try with_reducible rfl))); (try simp only [Act.put, List.getElem_toArray, List.getElem_cons_zero, List.getElem_cons_succ, List.setIfInBounds_toArray, List.set_cons_zero, List.set_cons_succ])
                        (refine wpAnyH_take (i := 7) (v := ?_) rfl (by kernel_rfl) (by kernel_rfl) (by kernel_rfl) (fun _ _ _ h => h) (Or.inl ⟨by rfl, ?_⟩) hS ?_); rotate_left; (focus (intro w' hSw; obtain ⟨c0, c1⟩ := CW.out w' hSw; go_simp; (try with_reducible rfl))); (try simp only [Act.put, List.getElem_toArray, List.getElem_cons_zero, List.getElem_cons_succ, List.setIfInBounds_toArray, List.set_cons_zero, List.set_cons_succ])
                        (refine wpAnyH_take (i := 8) (v := ?_) rfl (by kernel_rfl) (by kernel_rfl) (by kernel_rfl) (fun _ _ _ h => h) (Or.inl ⟨by rfl, ?_⟩) hS ?_); rotate_left; (focus (intro w' hSw; obtain ⟨c0, c1⟩ := CW.out w' hSw; go_simp; (try with_reducible rfl))); (try simp only [Act.put, List.getElem_toArray, List.getElem_cons_zero, List.getElem_cons_succ, List.setIfInBounds_toArray, List.set_cons_zero, List.set_cons_succ])
                        refine wpAnyH_ready (rs := [9]) (by kernel_rfl) (by simp) ?_
                        refine AllReadyH.cons rfl (fun K hK => ?_) AllReadyH.nil
                        go_simp
                        refine cS.mono ?_
                        rintro e Wi ⟨rfl, hB⟩
                        have b8 := B7.out.on hB
                        refine hK.out _ _ b8.bel (fun hS2 => ?_)
                        clear hK K cS B7 hS hB
                        (try simp only [Act.put, List.getElem_toArray, List.getElem_cons_zero, List.getElem_cons_succ, List.setIfInBounds_toArray, List.set_cons_zero, List.set_cons_succ])
                        have SV := hid (S1.out.below' hS2)
                        (refine wpAnyH_take (i := 10) (v := ?_) rfl (by kernel_rfl) (by kernel_rfl) (by kernel_rfl) (fun _ _ _ h => h) (Or.inl ⟨by rfl, ?_⟩) hS2 ?_); rotate_left; (focus (intro w' hSw; go_simp; (try with_reducible rfl))); (try simp only [Act.put, List.getElem_toArray, List.getElem_cons_zero, List.getElem_cons_succ, List.setIfInBounds_toArray, List.set_cons_zero, List.set_cons_succ])
                        (refine wpAnyH_take (i := 11) (v := ?_) rfl (by kernel_rfl) (by kernel_rfl) (by kernel_rfl) (fun _ _ _ h => h) (Or.inl ⟨by rfl, ?_⟩) hS2 ?_); rotate_left; (focus (intro w' hSw; go_simp; (try with_reducible rfl))); (try simp only [Act.put, List.getElem_toArray, List.getElem_cons_zero, List.getElem_cons_succ, List.setIfInBounds_toArray, List.set_cons_zero, List.set_cons_succ])
                        (refine wpAnyH_take (i := 12) (v := ?_) rfl (by kernel_rfl) (by kernel_rfl) (by kernel_rfl) (fun _ _ _ h => h) (Or.inl ⟨by rfl, ?_⟩) hS2 ?_); rotate_left; (focus (intro w' hSw; go_simp; (try with_reducible rfl))); (try simp only [Act.put, List.getElem_toArray, List.getElem_cons_zero, List.getElem_cons_succ, List.setIfInBounds_toArray, List.set_cons_zero, List.set_cons_succ])
                        (refine wpAnyH_take (i := 13) (v := ?_) rfl (by kernel_rfl) (by kernel_rfl) (by kernel_rfl) (fun _ _ _ h => h) (Or.inl ⟨by rfl, ?_⟩) hS2 ?_); rotate_left; (focus (intro w' hSw; go_simp; (try with_reducible rfl))); (try simp only [Act.put, List.getElem_toArray, List.getElem_cons_zero, List.getElem_cons_succ, List.setIfInBounds_toArray, List.set_cons_zero, List.set_cons_succ])
                        (refine wpAnyH_take (i := 14) (v := ?_) rfl (by kernel_rfl) (by kernel_rfl) (by kernel_rfl) (fun _ _ _ h => h) (Or.inl ⟨by rfl, ?_⟩) hS2 ?_); rotate_left; (focus (intro w' hSw; go_simp; (try with_reducible rfl))); (try simp only [Act.put, List.getElem_toArray, List.getElem_cons_zero, List.getElem_cons_succ, List.setIfInBounds_toArray, List.set_cons_zero, List.set_cons_succ])
                        refine wpAnyH_done (by kernel_rfl) ?_ _
                        clear hS2 CY CW S1 UX UY
                        generalize x.can = x' at *
                        generalize y.can = y' at *
                        obtain ⟨k1, i1, b1, t1, r1⟩ := x'
                        obtain ⟨k2, i2, b2, t2, r2⟩ := y'
                        simp only [Pl.v] at er eg
                        obtain ⟨p0, p1, p2, p3, p4, _⟩ := b8.cx
                        obtain ⟨q0, q1, q2, q3, q4, _⟩ := b8.cy
                        simp only [] at p0 p1 p2 p3 p4 q0 q1 q2 q3 q4
                        clear b8
                        go_wp2
                        go_roundw
                        case rel => exact ⟨b + 1, K2, by omega, by go_num, SV.out⟩
                        case measure => simp [intOf]; omega
                      · skip
                        go_simp
                        refine hK.out _ _ trivial (fun _ => ?_)
                        clear hK K
                        (try simp only [Act.put, List.getElem_toArray, List.getElem_cons_zero, List.getElem_cons_succ, List.setIfInBounds_toArray, List.set_cons_zero, List.set_cons_succ])
                        refine wpAnyH_ready (rs := [2]) (by kernel_rfl) (by simp) ?_
                        refine AllReadyH.cons rfl (fun K hK => ?_) AllReadyH.nil
                        go_simp
                        refine (cF _).mono ?_
                        rintro e w' ⟨rfl, hw⟩
                        (have hw' := hw.symm); subst hw'; clear hw
                        refine hK.out _ _ trivial (fun _ => ?_)
                        clear hK K
                        (try simp only [Act.put, List.getElem_toArray, List.getElem_cons_zero, List.getElem_cons_succ, List.setIfInBounds_toArray, List.set_cons_zero, List.set_cons_succ])
                        (refine wpAnyH_take (i := 6) (v := ?_) rfl (by kernel_rfl) (by kernel_rfl) (by kernel_rfl) (fun _ _ _ h => h) (Or.inl ⟨by rfl, ?_⟩) trivial ?_); rotate_left; (focus (intro w' hSw; go_simp; (try with_reducible rfl))); (try simp only [Act.put, List.getElem_toArray, List.getElem_cons_zero, List.getElem_cons_succ, List.setIfInBounds_toArray, List.set_cons_zero, List.set_cons_succ])
                        refine wpAnyH_ready (rs := [5]) (by kernel_rfl) (by simp) ?_
                        refine AllReadyH.cons rfl (fun K hK => ?_) AllReadyH.nil
                        go_simp
                        refine (cG _).mono ?_
                        rintro e w' ⟨rfl, hw⟩
                        (have hw' := hw.symm); subst hw'; clear hw
                        refine hK.out _ _ trivial (fun _ => ?_)
                        clear hK K
                        (try simp only [Act.put, List.getElem_toArray, List.getElem_cons_zero, List.getElem_cons_succ, List.setIfInBounds_toArray, List.set_cons_zero, List.set_cons_succ])
                        refine wpAnyH_ready (rs := [7]) (by kernel_rfl) (by simp) ?_
                        refine AllReadyH.cons rfl (fun K hK => ?_) AllReadyH.nil
                        go_simp
                        have b5 := B4.out.setx (fltW x.bi)
                        generalize World.setCell We ⟨Wa.heap.size, 2, none⟩ (.int .u64 (fltW x.bi)) = Wf at *
                        refine hK.out _ _ trivial (fun _ => ?_)
                        clear hK K B4 p0 p1 p2 p3 p4 pz r0 r1 r2 r3 r4 rz
                        (try simp only [Act.put, List.getElem_toArray, List.getElem_cons_zero, List.getElem_cons_succ, List.setIfInBounds_toArray, List.set_cons_zero, List.set_cons_succ])
                        have B5 := hid b5
                        obtain ⟨r0, r1, r2, r3, r4, rz⟩ := b5.cy
                        clear b5
                        (refine wpAnyH_take (i := 8) (v := ?_) rfl (by kernel_rfl) (by kernel_rfl) (by kernel_rfl) (fun _ _ _ h => h) (Or.inl ⟨by rfl, ?_⟩) trivial ?_); rotate_left; (focus (intro w' hSw; go_simp; (try with_reducible rfl))); (try simp only [Act.put, List.getElem_toArray, List.getElem_cons_zero, List.getElem_cons_succ, List.setIfInBounds_toArray, List.set_cons_zero, List.set_cons_succ])
                        refine wpAnyH_ready (rs := [9]) (by kernel_rfl) (by simp) ?_
                        refine AllReadyH.cons rfl (fun K hK => ?_) AllReadyH.nil
                        go_simp
                        have b6 : Bx wr (World.setCell Wf ⟨wr.heap.size, 2, none⟩ (.int .u64 (fltW y.bi))) Wa.heap.size wr.heap.size x.can y.can := B5.out.sety (fltW y.bi)
                        generalize World.setCell Wf ⟨wr.heap.size, 2, none⟩ (.int .u64 (fltW y.bi)) = Wg at *
                        refine hK.out _ _ trivial (fun _ => ?_)
                        clear hK K B5 r0 r1 r2 r3 r4 rz hS cF cG
                        (try simp only [Act.put, List.getElem_toArray, List.getElem_cons_zero, List.getElem_cons_succ, List.setIfInBounds_toArray, List.set_cons_zero, List.set_cons_succ])
                        refine wpAnyH_done (by kernel_rfl) ?_ _
                        have B6 := hid b6
                        clear b6
                        go_upto_region 31 with fail
                        refine wp_region_held_drew (S := fun w' => Below wr.heap.size wr w') (by kernel_rfl) B6.out.bel.drew ?_
                        intro hS
                        have cS := same_any (S1.out.below' hS).q wa wb' x y UX.out UY.out
                        have er := eq_run x.can y.can
                        have eg := eq_guard x.can y.can
                        have b7 := B6.out.drew
                        clear B6
                        generalize Wg.drew = Wh at *
                        have B7 := hid b7
                        clear b7
                        generalize eqP x.can y.can = r at *
                        (refine wpAnyH_take (i := 0) (v := ?_) rfl (by kernel_rfl) (by kernel_rfl) (by kernel_rfl) (fun _ _ _ h => h) (Or.inl ⟨by rfl, ?_⟩) hS ?_); rotate_left; (focus (intro w' hSw; obtain ⟨c0, c1⟩ := CW.out w' hSw; go_simp; (try with_reducible rfl))); (try simp only [Act.put, List.getElem_toArray, List.getElem_cons_zero, List.getElem_cons_succ, List.setIfInBounds_toArray, List.set_cons_zero, List.set_cons_succ])
                        (refine wpAnyH_take (i := 1) (v := ?_) rfl (by kernel_rfl) (by kernel_rfl) (by kernel_rfl) (fun _ _ _ h => h) (Or.inl ⟨by rfl, ?_⟩) hS ?_); rotate_left; (focus (intro w' hSw; obtain ⟨c0, c1⟩ := CW.out w' hSw; go_simp; (try with_reducible rfl))); (try simp only [Act.put, List.getElem_toArray, List.getElem_cons_zero, List.getElem_cons_succ, List.setIfInBounds_toArray, List.set_cons_zero, List.set_cons_succ])
                        (refine wpAnyH_take (i := 2) (v := ?_) rfl (by kernel_rfl) (by kernel_rfl) (by kernel_rfl) (fun _ _ _ h => h) (Or.inl ⟨by rfl, ?_⟩) hS ?_); rotate_left; (focus (intro w' hSw; obtain ⟨c0, c1⟩ := CW.out w' hSw; go_simp; (try with_reducible rfl))); (try simp only [Act.put, List.getElem_toArray, List.getElem_cons_zero, List.getElem_cons_succ, List.setIfInBounds_toArray, List.set_cons_zero, List.set_cons_succ])
                        (refine wpAnyH_take (i := 3) (v := ?_) rfl (by kernel_rfl) (by kernel_rfl) (by kernel_rfl) (fun _ _ _ h => h) (Or.inl ⟨by rfl, ?_⟩) hS ?_); rotate_left; (focus (intro w' hSw; obtain ⟨c0, c1⟩ := CW.out w' hSw; go_simp; (try with_reducible rfl))); (try simp only [Act.put, List.getElem_toArray, List.getElem_cons_zero, List.getElem_cons_succ, List.setIfInBounds_toArray, List.set_cons_zero, List.set_cons_succ])
                        (refine wpAnyH_take (i := 4) (v := ?_) rfl (by kernel_rfl) (by kernel_rfl) (by kernel_rfl) (fun _ _ _ h => h) (Or.inl ⟨by rfl, ?_⟩) hS ?_); rotate_left; (focus (intro w' hSw; obtain ⟨c0, c1⟩ := CW.out w' hSw; go_simp; (try with_reducible rfl))); (try simp only [Act.put, List.getElem_toArray, List.getElem_cons_zero, List.getElem_cons_succ, List.setIfInBounds_toArray, List.set_cons_zero, List.set_cons_succ])
                        (refine wpAnyH_take (i := 5) (v := ?_) rfl (by kernel_rfl) (by kernel_rfl) (by kernel_rfl) (fun _ _ _ h => h) (Or.inl ⟨by rfl, ?_⟩) hS ?_); rotate_left; (focus (intro w' hSw; obtain ⟨c0, c1⟩ := CW.out w' hSw; go_simp; (try with_reducible rfl))); (try simp only [Act.put, List.getElem_toArray, List.getElem_cons_zero, List.getElem_cons_succ, List.setIfInBounds_toArray, List.set_cons_zero, List.set_cons_succ])
                        (refine wpAnyH_take (i := 6) (v := ?_) rfl (by kernel_rfl) (by kernel_rfl) (by kernel_rfl) (fun _ _ _ h => h) (Or.inl ⟨by rfl, ?_⟩) hS ?_); rotate_left; (focus (intro w' hSw; obtain ⟨c0, c1⟩ := CW.out w' hSw; go_simp; (try with_reducible rfl))); (try simp only [Act.put, List.getElem_toArray, List.getElem_cons_zero, List.getElem_cons_succ, List.setIfInBounds_toArray, List.set_cons_zero, List.set_cons_succ])
                        (refine wpAnyH_take (i := 7) (v := ?_) rfl (by kernel_rfl) (by kernel_rfl) (by kernel_rfl) (fun _ _ _ h => h) (Or.inl ⟨by rfl, ?_⟩) hS ?_); rotate_left; (focus (intro w' hSw; obtain ⟨c0, c1⟩ := CW.out w' hSw; go_simp; (try with_reducible rfl))); (try simp only [Act.put, List.getElem_toArray, List.getElem_cons_zero, List.getElem_cons_succ, List.setIfInBounds_toArray, List.set_cons_zero, List.set_cons_succ])
                        (refine wpAnyH_take (i := 8) (v := ?_) rfl (by kernel_rfl) (by kernel_rfl) (by kernel_rfl) (fun _ _ _ h => h) (Or.inl ⟨by rfl, ?_⟩) hS ?_); rotate_left; (focus (intro w' hSw; obtain ⟨c0, c1⟩ := CW.out w' hSw; go_simp; (try with_reducible rfl))); (try simp only [Act.put, List.getElem_toArray, List.getElem_cons_zero, List.getElem_cons_succ, List.setIfInBounds_toArray, List.set_cons_zero, List.set_cons_succ])
                        refine wpAnyH_ready (rs := [9]) (by kernel_rfl) (by simp) ?_
                        refine AllReadyH.cons rfl (fun K hK => ?_) AllReadyH.nil
                        go_simp
                        refine cS.mono ?_
                        rintro e Wi ⟨rfl, hB⟩
                        have b8 := B7.out.on hB
                        refine hK.out _ _ b8.bel (fun hS2 => ?_)
                        clear hK K cS B7 hS hB
                        (try simp only [Act.put, List.getElem_toArray, List.getElem_cons_zero, List.getElem_cons_succ, List.setIfInBounds_toArray, List.set_cons_zero, List.set_cons_succ])
                        have SV := hid (S1.out.below' hS2)
                        (refine wpAnyH_take (i := 10) (v := ?_) rfl (by kernel_rfl) (by kernel_rfl) (by kernel_rfl) (fun _ _ _ h => h) (Or.inl ⟨by rfl, ?_⟩) hS2 ?_); rotate_left; (focus (intro w' hSw; go_simp; (try with_reducible rfl))); (try simp only [Act.put, List.getElem_toArray, List.getElem_cons_zero, List.getElem_cons_succ, List.setIfInBounds_toArray, List.set_cons_zero, List.set_cons_succ])
                        (refine wpAnyH_take (i := 11) (v := ?_) rfl (by kernel_rfl) (by kernel_rfl) (by kernel_rfl) (fun _ _ _ h => h) (Or.inl ⟨by rfl, ?_⟩) hS2 ?_); rotate_left; (focus (intro w' hSw; go_simp; (try with_reducible rfl))); (try simp only [Act.put, List.getElem_toArray, List.getElem_cons_zero, List.getElem_cons_succ, List.setIfInBounds_toArray, List.set_cons_zero, List.set_cons_succ])
                        (refine wpAnyH_take (i := 12) (v := ?_) rfl (by kernel_rfl) (by kernel_rfl) (by kernel_rfl) (fun _ _ _ h => h) (Or.inl ⟨by rfl, ?_⟩) hS2 ?_); rotate_left; (focus (intro w' hSw; go_simp; (try with_reducible rfl))); (try simp only [Act.put, List.getElem_toArray, List.getElem_cons_zero, List.getElem_cons_succ, List.setIfInBounds_toArray, List.set_cons_zero, List.set_cons_succ])
                        (refine wpAnyH_take (i := 13) (v := ?_) rfl (by kernel_rfl) (by kernel_rfl) (by kernel_rfl) (fun _ _ _ h => h) (Or.inl ⟨by rfl, ?_⟩) hS2 ?_); rotate_left; (focus (intro w' hSw; go_simp; (try with_reducible rfl))); (try simp only [Act.put, List.getElem_toArray, List.getElem_cons_zero, List.getElem_cons_succ, List.setIfInBounds_toArray, List.set_cons_zero, List.set_cons_succ])
                        (refine wpAnyH_take (i := 14) (v := ?_) rfl (by kernel_rfl) (by kernel_rfl) (by kernel_rfl) (fun _ _ _ h => h) (Or.inl ⟨by rfl, ?_⟩) hS2 ?_); rotate_left; (focus (intro w' hSw; go_simp; (try with_reducible rfl))); (try simp only [Act.put, List.getElem_toArray, List.getElem_cons_zero, List.getElem_cons_succ, List.setIfInBounds_toArray, List.set_cons_zero, List.set_cons_succ])
                        refine wpAnyH_done (by kernel_rfl) ?_ _
                        clear hS2 CY CW S1 UX UY
                        generalize x.can = x' at *
                        generalize y.can = y' at *
                        obtain ⟨k1, i1, b1, t1, r1⟩ := x'
                        obtain ⟨k2, i2, b2, t2, r2⟩ := y'
                        simp only [Pl.v] at er eg
                        obtain ⟨p0, p1, p2, p3, p4, _⟩ := b8.cx
                        obtain ⟨q0, q1, q2, q3, q4, _⟩ := b8.cy
                        simp only [] at p0 p1 p2 p3 p4 q0 q1 q2 q3 q4
                        clear b8
                        go_wp2
                        go_roundw
                        case rel => exact ⟨b + 1, K2, by omega, by go_num, SV.out⟩
                        case measure => simp [intOf]; omega
                    · skip
                      go_simp
                      refine hK.out _ _ trivial (fun _ => ?_)
                      clear hK K
                      (try simp only [Act.put, List.getElem_toArray, List.getElem_cons_zero, List.getElem_cons_succ, List.setIfInBounds_toArray, List.set_cons_zero, List.set_cons_succ])
                      refine wpAnyH_ready (rs := [1]) (by kernel_rfl) (by simp) ?_
                      refine AllReadyH.cons rfl (fun K hK => ?_) AllReadyH.nil
                      go_simp
                      refine hK.out _ _ trivial (fun _ => ?_)
                      clear hK K
                      (try simp only [Act.put, List.getElem_toArray, List.getElem_cons_zero, List.getElem_cons_succ, List.setIfInBounds_toArray, List.set_cons_zero, List.set_cons_succ])
                      refine wpAnyH_ready (rs := [2]) (by kernel_rfl) (by simp) ?_
                      refine AllReadyH.cons rfl (fun K hK => ?_) AllReadyH.nil
                      go_simp
                      refine (cF _).mono ?_
                      rintro e w' ⟨rfl, hw⟩
                      (have hw' := hw.symm); subst hw'; clear hw
                      refine hK.out _ _ trivial (fun _ => ?_)
                      clear hK K
                      (try simp only [Act.put, List.getElem_toArray, List.getElem_cons_zero, List.getElem_cons_succ, List.setIfInBounds_toArray, List.set_cons_zero, List.set_cons_succ])
                      (refine wpAnyH_take (i := 6) (v := ?_) rfl (by kernel_rfl) (by kernel_rfl) (by kernel_rfl) (fun _ _ _ h => h) (Or.inl ⟨by rfl, ?_⟩) trivial ?_); rotate_left; (focus (intro w' hSw; go_simp; (try with_reducible rfl))); (try simp only [Act.put, List.getElem_toArray, List.getElem_cons_zero, List.getElem_cons_succ, List.setIfInBounds_toArray, List.set_cons_zero, List.set_cons_succ])
                      refine wpAnyH_ready (rs := [5]) (by kernel_rfl) (by simp) ?_
                      refine AllReadyH.cons rfl (fun K hK => ?_) AllReadyH.nil
                      go_simp
                      refine (cG _).mono ?_
                      rintro e w' ⟨rfl, hw⟩
                      (have hw' := hw.symm); subst hw'; clear hw
                      refine hK.out _ _ trivial (fun _ => ?_)
                      clear hK K
                      (try simp only [Act.put, List.getElem_toArray, List.getElem_cons_zero, List.getElem_cons_succ, List.setIfInBounds_toArray, List.set_cons_zero, List.set_cons_succ])
                      refine wpAnyH_ready (rs := [7]) (by kernel_rfl) (by simp) ?_
                      refine AllReadyH.cons rfl (fun K hK => ?_) AllReadyH.nil
                      go_simp
                      have b5 := B4.out.setx (fltW x.bi)
                      generalize World.setCell We ⟨Wa.heap.size, 2, none⟩ (.int .u64 (fltW x.bi)) = Wf at *
                      refine hK.out _ _ trivial (fun _ => ?_)
                      clear hK K B4 p0 p1 p2 p3 p4 pz r0 r1 r2 r3 r4 rz
                      (try simp only [Act.put, List.getElem_toArray, List.getElem_cons_zero, List.getElem_cons_succ, List.setIfInBounds_toArray, List.set_cons_zero, List.set_cons_succ])
                      have B5 := hid b5
                      obtain ⟨r0, r1, r2, r3, r4, rz⟩ := b5.cy
                      clear b5
                      (refine wpAnyH_take (i := 8) (v := ?_) rfl (by kernel_rfl) (by kernel_rfl) (by kernel_rfl) (fun _ _ _ h => h) (Or.inl ⟨by rfl, ?_⟩) trivial ?_); rotate_left; (focus (intro w' hSw; go_simp; (try with_reducible rfl))); (try simp only [Act.put, List.getElem_toArray, List.getElem_cons_zero, List.getElem_cons_succ, List.setIfInBounds_toArray, List.set_cons_zero, List.set_cons_succ])
                      refine wpAnyH_ready (rs := [9]) (by kernel_rfl) (by simp) ?_
                      refine AllReadyH.cons rfl (fun K hK => ?_) AllReadyH.nil
                      go_simp
                      have b6 : Bx wr (World.setCell Wf ⟨wr.heap.size, 2, none⟩ (.int .u64 (fltW y.bi))) Wa.heap.size wr.heap.size x.can y.can := B5.out.sety (fltW y.bi)
                      generalize World.setCell Wf ⟨wr.heap.size, 2, none⟩ (.int .u64 (fltW y.bi)) = Wg at *
                      refine hK.out _ _ trivial (fun _ => ?_)
                      clear hK K B5 r0 r1 r2 r3 r4 rz hS cF cG
                      (try simp only [Act.put, List.getElem_toArray, List.getElem_cons_zero, List.getElem_cons_succ, List.setIfInBounds_toArray, List.set_cons_zero, List.set_cons_succ])
                      refine wpAnyH_done (by kernel_rfl) ?_ _
                      have B6 := hid b6
                      clear b6
                      go_upto_region 31 with fail
                      refine wp_region_held_drew (S := fun w' => Below wr.heap.size wr w') (by kernel_rfl) B6.out.bel.drew ?_
                      intro hS
                      have cS := same_any (S1.out.below' hS).q wa wb' x y UX.out UY.out
                      have er := eq_run x.can y.can
                      have eg := eq_guard x.can y.can
                      have b7 := B6.out.drew
                      clear B6
                      generalize Wg.drew = Wh at *
                      have B7 := hid b7
                      clear b7
                      generalize eqP x.can y.can = r at *
                      (refine wpAnyH_take (i := 0) (v := ?_) rfl (by kernel_rfl) (by kernel_rfl) (by kernel_rfl) (fun _ _ _ h => h) (Or.inl ⟨by rfl, ?_⟩) hS ?_); rotate_left; (focus (intro w' hSw; obtain ⟨c0, c1⟩ := CW.out w' hSw; go_simp; (try with_reducible rfl))); (try simp only [Act.put, List.getElem_toArray, List.getElem_cons_zero, List.getElem_cons_succ, List.setIfInBounds_toArray, List.set_cons_zero, List.set_cons_succ])
                      (refine wpAnyH_take (i := 1) (v := ?_) rfl (by kernel_rfl) (by kernel_rfl) (by kernel_rfl) (fun _ _ _ h => h) (Or.inl ⟨by rfl, ?_⟩) hS ?_); rotate_left; (focus (intro w' hSw; obtain ⟨c0, c1⟩ := CW.out w' hSw; go_simp; (try with_reducible rfl))); (try simp only [Act.put, List.getElem_toArray, List.getElem_cons_zero, List.getElem_cons_succ, List.setIfInBounds_toArray, List.set_cons_zero, List.set_cons_succ])
                      (refine wpAnyH_take (i := 2) (v := ?_) rfl (by kernel_rfl) (by kernel_rfl) (by kernel_rfl) (fun _ _ _ h => h) (Or.inl ⟨by rfl, ?_⟩) hS ?_); rotate_left; (focus (intro w' hSw; obtain ⟨c0, c1⟩ := CW.out w' hSw; go_simp; (try with_reducible rfl))); (try simp only [Act.put, List.getElem_toArray, List.getElem_cons_zero, List.getElem_cons_succ, List.setIfInBounds_toArray, List.set_cons_zero, List.set_cons_succ])
                      (refine wpAnyH_take (i := 3) (v := ?_) rfl (by kernel_rfl) (by kernel_rfl) (by kernel_rfl) (fun _ _ _ h => h) (Or.inl ⟨by rfl, ?_⟩) hS ?_); rotate_left; (focus (intro w' hSw; obtain ⟨c0, c1⟩ := CW.out w' hSw; go_simp; (try with_reducible rfl))); (try simp only [Act.put, List.getElem_toArray, List.getElem_cons_zero, List.getElem_cons_succ, List.setIfInBounds_toArray, List.set_cons_zero, List.set_cons_succ])
                      (refine wpAnyH_take (i := 4) (v := ?_) rfl (by kernel_rfl) (by kernel_rfl) (by kernel_rfl) (fun _ _ _ h => h) (Or.inl ⟨by rfl, ?_⟩) hS ?_); rotate_left; (focus (intro w' hSw; obtain ⟨c0, c1⟩ := CW.out w' hSw; go_simp; (try with_reducible rfl))); (try simp only [Act.put, List.getElem_toArray, List.getElem_cons_zero, List.getElem_cons_succ, List.setIfInBounds_toArray, List.set_cons_zero, List.set_cons_succ])
                      (refine wpAnyH_take (i := 5) (v := ?_) rfl (by kernel_rfl) (by kernel_rfl) (by kernel_rfl) (fun _ _ _ h => h) (Or.inl ⟨by rfl, ?_⟩) hS ?_); rotate_left; (focus (intro w' hSw; obtain ⟨c0, c1⟩ := CW.out w' hSw; go_simp; (try with_reducible rfl))); (try simp only [Act.put, List.getElem_toArray, List.getElem_cons_zero, List.getElem_cons_succ, List.setIfInBounds_toArray, List.set_cons_zero, List.set_cons_succ])
                      (refine wpAnyH_take (i := 6) (v := ?_) rfl (by kernel_rfl) (by kernel_rfl) (by kernel_rfl) (fun _ _ _ h => h) (Or.inl ⟨by rfl, ?_⟩) hS ?_); rotate_left; (focus (intro w' hSw; obtain ⟨c0, c1⟩ := CW.out w' hSw; go_simp; (try with_reducible rfl))); (try simp only [Act.put, List.getElem_toArray, List.getElem_cons_zero, List.getElem_cons_succ, List.setIfInBounds_toArray, List.set_cons_zero, List.set_cons_succ])
                      (refine wpAnyH_take (i := 7) (v := ?_) rfl (by kernel_rfl) (by kernel_rfl) (by kernel_rfl) (fun _ _ _ h => h) (Or.inl ⟨by rfl, ?_⟩) hS ?_); rotate_left; (focus (intro w' hSw; obtain ⟨c0, c1⟩ := CW.out w' hSw; go_simp; (try with_reducible rfl))); (try simp only [Act.put, List.getElem_toArray, List.getElem_cons_zero, List.getElem_cons_succ, List.setIfInBounds_toArray, List.set_cons_zero, List.set_cons_succ])
                      (refine wpAnyH_take (i := 8) (v := ?_) rfl (by kernel_rfl) (by kernel_rfl) (by kernel_rfl) (fun _ _ _ h => h) (Or.inl ⟨by rfl, ?_⟩) hS ?_); rotate_left; (focus (intro w' hSw; obtain ⟨c0, c1⟩ := CW.out w' hSw; go_simp; (try with_reducible rfl))); (try simp only [Act.put, List.getElem_toArray, List.getElem_cons_zero, List.getElem_cons_succ, List.setIfInBounds_toArray, List.set_cons_zero, List.set_cons_succ])
                      refine wpAnyH_ready (rs := [9]) (by kernel_rfl) (by simp) ?_
                      refine AllReadyH.cons rfl (fun K hK => ?_) AllReadyH.nil
                      go_simp
                      refine cS.mono ?_
                      rintro e Wi ⟨rfl, hB⟩
                      have b8 := B7.out.on hB
                      refine hK.out _ _ b8.bel (fun hS2 => ?_)
                      clear hK K cS B7 hS hB
                      (try simp only [Act.put, List.getElem_toArray, List.getElem_cons_zero, List.getElem_cons_succ, List.setIfInBounds_toArray, List.set_cons_zero, List.set_cons_succ])
                      have SV := hid (S1.out.below' hS2)
                      (refine wpAnyH_take (i := 10) (v := ?_) rfl (by kernel_rfl) (by kernel_rfl) (by kernel_rfl) (fun _ _ _ h => h) (Or.inl ⟨by rfl, ?_⟩) hS2 ?_); rotate_left; (focus (intro w' hSw; go_simp; (try with_reducible rfl))); (try simp only [Act.put, List.getElem_toArray, List.getElem_cons_zero, List.getElem_cons_succ, List.setIfInBounds_toArray, List.set_cons_zero, List.set_cons_succ])
                      (refine wpAnyH_take (i := 11) (v := ?_) rfl (by kernel_rfl) (by kernel_rfl) (by kernel_rfl) (fun _ _ _ h => h) (Or.inl ⟨by rfl, ?_⟩) hS2 ?_); rotate_left; (focus (intro w' hSw; go_simp; (try with_reducible rfl))); (try simp only [Act.put, List.getElem_toArray, List.getElem_cons_zero, List.getElem_cons_succ, List.setIfInBounds_toArray, List.set_cons_zero, List.set_cons_succ])
                      (refine wpAnyH_take (i := 12) (v := ?_) rfl (by kernel_rfl) (by kernel_rfl) (by kernel_rfl) (fun _ _ _ h => h) (Or.inl ⟨by rfl, ?_⟩) hS2 ?_); rotate_left; (focus (intro w' hSw; go_simp; (try with_reducible rfl))); (try simp only [Act.put, List.getElem_toArray, List.getElem_cons_zero, List.getElem_cons_succ, List.setIfInBounds_toArray, List.set_cons_zero, List.set_cons_succ])
                      (refine wpAnyH_take (i := 13) (v := ?_) rfl (by kernel_rfl) (by kernel_rfl) (by kernel_rfl) (fun _ _ _ h => h) (Or.inl ⟨by rfl, ?_⟩) hS2 ?_); rotate_left; (focus (intro w' hSw; go_simp; (try with_reducible rfl))); (try simp only [Act.put, List.getElem_toArray, List.getElem_cons_zero, List.getElem_cons_succ, List.setIfInBounds_toArray, List.set_cons_zero, List.set_cons_succ])
                      (refine wpAnyH_take (i := 14) (v := ?_) rfl (by kernel_rfl) (by kernel_rfl) (by kernel_rfl) (fun _ _ _ h => h) (Or.inl ⟨by rfl, ?_⟩) hS2 ?_); rotate_left; (focus (intro w' hSw; go_simp; (try with_reducible rfl))); (try simp only [Act.put, List.getElem_toArray, List.getElem_cons_zero, List.getElem_cons_succ, List.setIfInBounds_toArray, List.set_cons_zero, List.set_cons_succ])
                      refine wpAnyH_done (by kernel_rfl) ?_ _
                      clear hS2 CY CW S1 UX UY
                      generalize x.can = x' at *
                      generalize y.can = y' at *
                      obtain ⟨k1, i1, b1, t1, r1⟩ := x'
                      obtain ⟨k2, i2, b2, t2, r2⟩ := y'
                      simp only [Pl.v] at er eg
                      obtain ⟨p0, p1, p2, p3, p4, _⟩ := b8.cx
                      obtain ⟨q0, q1, q2, q3, q4, _⟩ := b8.cy
                      simp only [] at p0 p1 p2 p3 p4 q0 q1 q2 q3 q4
                      clear b8
                      go_wp2
                      go_roundw
                      case rel => exact ⟨b + 1, K2, by omega, by go_num, SV.out⟩
                      case measure => simp [intOf]; omega
                · have eb : b = 12 := by omega
                  rw [show (b : Int) = 12 by omega]
                  subst eb
                  clear hltb hb'
                  go_wp2
                  go_roundw
                  case rel => exact ⟨a + 1, K2, by omega, by go_num, S1.out⟩
                  case measure => simp [intOf]; omega
            · have ea : a = 12 := by omega
              rw [show (a : Int) = 12 by omega]
              subst ea
              clear hlt ha
              go_wp2_with (go_at_call 16; (with_reducible refine (awake7_c _).mono ?_); rintro e w5 ⟨rfl, b5⟩)
              go_ret
              have bb := S1.out.bel
              exact ⟨rfl, bb.trans (b5.mono bb.size)⟩
set_option maxRecDepth 100000 in
theorem vs_long1 (i j bits : Int) (s t : ByteArray) (g1 : (s.size : Int) > 1000) (W : World) : Calls Try.prog 5 #[.int .i64 i, .int .i64 j, .string s, .string t, .int .u64 bits] W fun e w' => e = .returned (.bool true) ∧ Below W.heap.size W w' := by
  go_enter Try.func5, Try.ntmps5
  go_wp2
  go_ret
  exact ⟨rfl, Below.refl _ _⟩
set_option maxRecDepth 100000 in
theorem vs_long2 (i j bits : Int) (s t : ByteArray) (g1 : ¬ (s.size : Int) > 1000) (g2 : (t.size : Int) > 1000) (W : World) : Calls Try.prog 5 #[.int .i64 i, .int .i64 j, .string s, .string t, .int .u64 bits] W fun e w' => e = .returned (.bool true) ∧ Below W.heap.size W w' := by
  go_enter Try.func5, Try.ntmps5
  go_wp2
  go_ret
  exact ⟨rfl, Below.refl _ _⟩
theorem valueSame_walk (i : Int) (wi : (Lit.int .i64 i).wf = true) (j : Int) (wj : (Lit.int .i64 j).wf = true) (s : ByteArray) (hs : s.size ≤ maxLen) (t : ByteArray) (ht : t.size ≤ maxLen) (b : Int) (wb : (Lit.int .u64 b).wf = true) (W : World) : Calls Try.prog 5 #[.int .i64 i, .int .i64 j, .string s, .string t, .int .u64 b] W fun e w' => e = .returned (.bool true) ∧ Below W.heap.size W w' := by
  by_cases c1 : s.size ≤ 1000
  · by_cases c2 : t.size ≤ 1000
    · have hi : -9223372036854775808 ≤ i ∧ i ≤ 9223372036854775807 := by
        simp [Lit.wf] at wi
        have e1 : IntKind.i64.min = -9223372036854775808 := by decide
        have e2 : IntKind.i64.max = 9223372036854775807 := by decide
        omega
      have hj : -9223372036854775808 ≤ j ∧ j ≤ 9223372036854775807 := by
        simp [Lit.wf] at wj
        have e1 : IntKind.i64.min = -9223372036854775808 := by decide
        have e2 : IntKind.i64.max = 9223372036854775807 := by decide
        omega
      have hbi : 0 ≤ b ∧ b < 18446744073709551616 := by
        simp [Lit.wf] at wb
        have e1 : IntKind.u64.min = 0 := by decide
        have e2 : IntKind.u64.max = 18446744073709551615 := by decide
        omega
      obtain ⟨xs, h1, h2, h3⟩ := vs_list i j b s t hi hj hbi c1 c2
      exact vs_main i j b s t xs h1 h2 h3 c1 c2 W
    · exact vs_long2 i j b s t (by omega) (by omega) W
  · exact vs_long1 i j b s t (by omega) W
end Go.Proofs.Ytaebnnkhjlidiab.W
