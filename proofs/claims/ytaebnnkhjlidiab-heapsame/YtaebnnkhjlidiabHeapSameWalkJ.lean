import Derived.Test.YtaebnnkhjlidiabKs4J
import Derived.Test.YtaebnnkhjlidiabBase25
import Derived.Test.YtaebnnkhjlidiabSiOpenJ
/- HeapSame: the walk. -/
namespace Go.Proofs.Ytaebnnkhjlidiab.W
open Go.ChangeShapes Go.WideShapes Go.RowKit Go.Shelf Si
set_option linter.unusedVariables false
set_option linter.unusedSimpArgs false
namespace Hq
set_option maxRecDepth 100000 in
theorem long (u : Int) (o p : Option Addr) (l c m d : Nat) (h : u < 0 ∨ 500 < u ∨ 80 < l) (w : World) : Calls Try.prog 3 #[.int .i64 u, .slice o l c, .slice p m d] w fun e w' => e = .returned (.bool true) ∧ Below w.heap.size w w' := by
  by_cases c1 : u < 0
  · clear h
    go_enter Try.func3, Try.ntmps3
    go_wp2
    go_ret
    exact ⟨rfl, Below.refl _ _⟩
  · by_cases c2 : u > 500
    · clear h
      go_enter Try.func3, Try.ntmps3
      go_wp2
      go_ret
      exact ⟨rfl, Below.refl _ _⟩
    · have c3 : (l : Int) > 80 := by omega
      clear h
      go_enter Try.func3, Try.ntmps3
      go_wp2
      go_ret
      exact ⟨rfl, Below.refl _ _⟩
set_option maxRecDepth 100000 in
set_option maxHeartbeats 4000000 in
theorem main (u : Nat) (hu : u ≤ 500) (o : Option Addr) (l c : Nat) (N : Nat → Int) (p : Option Addr) (m d : Nat) (B : Nat → Bool) (w : World) (R1 : IntsAt w o l c N) (R2 : BoolsAt w p m d B) (hl : l ≤ 80) : Calls Try.prog 3 #[.int .i64 u, .slice o l c, .slice p m d] w fun e w' => e = .returned (.bool true) ∧ Below w.heap.size w w' := by
  have u0 : ¬ (u : Int) < 0 := by omega
  have u1 : ¬ (u : Int) > 500 := by omega
  have l0 : ¬ (l : Int) > 80 := by omega
  have cn := hf_new (Below.refl w.heap.size w) u (by omega)
  go_enter Try.func3, Try.ntmps3
  go_upto_region 4 with (go_at_call 7; (with_reducible refine cn.mono ?_); rintro e w1 ⟨ha, rfl, q1, b1⟩; clear cn)
  have cn := two_new q1
  go_upto_region 5 with (go_at_call 7; (with_reducible refine cn.mono ?_); rintro e w2 ⟨hb, rfl, q2, b2⟩; clear cn)
  clear q1 b1 b2
  have sm0 : Sm w w2 ha hb u 0 [] [] [] [] (fun k => k < w.heap.size) (.slice none 0 0) (.slice none 0 0) := ⟨q2, kp_nil, kp_nil, rfl, mine_nil w w2 _, mine_nil w w2 _, fun k e => (by cases e), Nat.le_refl _, Nat.le_refl _, Nat.le_refl _, Nat.le_refl _⟩
  have SM0 := hid sm0
  clear sm0 q2
  go_wp2
  go_loopw [11, 12, 13, 14, 15, 16, 17, 18] (fun vx vy ii _ _ _ _ _ wr => ∃ (j : Nat) (Ha Hb : List (Option Hc)) (ia ib : List Nat) (K : Nat → Prop), j ≤ l ∧ ii = .int .i64 j ∧ Sm w wr ha hb u j Ha Hb ia ib K vx vy) (fun _ _ ii _ _ _ _ _ _ => l - (intOf ii).toNat)
  case atStart => exact ⟨0, [], [], [], [], _, by omega, rfl, SM0.out⟩
  case round =>
    obtain ⟨j, Ha, Hb, ia, ib, K, hj, rfl, sm⟩ := hrel
    clear SM0
    by_cases hlt : j < l
    · have ho : ∃ a, o = some a := by
        rcases R1 with h | ⟨b, e, _⟩
        · omega
        · exact ⟨b, e⟩
      obtain ⟨a, rfl⟩ := ho
      have hcg : ∀ w', Below w.heap.size w w' → w'.cell? (a.add j) = some (.int .i64 (N j)) := by
        intro w' hb'
        rcases R1 with ⟨e, _⟩ | ⟨b, e, _, _, h⟩
        · cases e
        · injection e with e
          subst e
          have hc := h j hlt
          exact (hb'.cell (World.block_lt_of_cell? w _ hc)).trans hc
      have hcell := hcg wr sm.q.bel
      have HC := hid hcg
      clear hcg
      have j0 : (0 : Int) ≤ j := Int.natCast_nonneg _
      have j1 : (j : Int) < l := by omega
      have SM := hid sm
      clear sm
      by_cases c1 : N j < 0
      · go_wp2
        go_ret
        exact ⟨rfl, SM.out.q.bel⟩
      · by_cases c2 : N j > 100
        · go_wp2
          go_ret
          exact ⟨rfl, SM.out.q.bel⟩
        · obtain ⟨n, hn⟩ : ∃ n : Nat, N j = n := ⟨(N j).toNat, by omega⟩
          rw [hn] at hcell c1 c2 HC
          have hn1 : n ≤ 100 := by omega
          clear hn
          obtain ⟨w3, hm3, hw3, b3, lt3⟩ := make_words wr n (by omega)
          obtain ⟨ox, cx, hvx⟩ := slice_of (owns_base SM.out.x.row (b' := 0) (fun _ _ => Nat.zero_le _))
          obtain ⟨oy, cy, hvy⟩ := slice_of (owns_base SM.out.y.row (b' := 0) (fun _ _ => Nat.zero_le _))
          generalize (ia.map hw).length = nx at hvx
          generalize (ib.map hw).length = ny at hvy
          subst hvx
          subst hvy
          go_upto_region 14 with fail
          have B4 : Below wr.heap.size wr (w3.alloc (.cells #[.int .i64 9, .bool false, .int .i64 0, .string ⟨#[]⟩, .slice none 0 0, .slice (some ⟨wr.heap.size, 0, none⟩) n n, .int .u64 0, .int .i64 0, .int .i64 0] 32)) := b3.alloc b3.size _
          obtain ⟨K4, s4, k4, k4'⟩ : ∃ K4 : Nat → Prop, Sm w (w3.alloc (.cells #[.int .i64 9, .bool false, .int .i64 0, .string ⟨#[]⟩, .slice none 0 0, .slice (some ⟨wr.heap.size, 0, none⟩) n n, .int .u64 0, .int .i64 0, .int .i64 0] 32)) ha hb u j Ha Hb ia ib K4 (.slice ox nx cx) (.slice oy ny cy) ∧ K4 wr.heap.size ∧ K4 w3.heap.size := ⟨_, SM.out.below B4, .inr ⟨Nat.le_refl _, by rw [World.size_alloc]; omega⟩, .inr ⟨b3.size, by rw [World.size_alloc]; omega⟩⟩
          have f4 := World.alloc_heap_new w3 (.cells #[.int .i64 9, .bool false, .int .i64 0, .string ⟨#[]⟩, .slice none 0 0, .slice (some ⟨wr.heap.size, 0, none⟩) n n, .int .u64 0, .int .i64 0, .int .i64 0] 32)
          have hw4 := words_below hw3 ((Below.refl _ w3).alloc (Nat.le_refl _) (.cells #[.int .i64 9, .bool false, .int .i64 0, .string ⟨#[]⟩, .slice none 0 0, .slice (some ⟨wr.heap.size, 0, none⟩) n n, .int .u64 0, .int .i64 0, .int .i64 0] 32))
          generalize w3.alloc (.cells #[.int .i64 9, .bool false, .int .i64 0, .string ⟨#[]⟩, .slice none 0 0, .slice (some ⟨wr.heap.size, 0, none⟩) n n, .int .u64 0, .int .i64 0, .int .i64 0] 32) = W4 at *
          generalize w3.heap.size = cb at *
          clear b3 lt3 hm3 hw3 hcell SM
          obtain ⟨vc, Wc, hrun, hwc, bc⟩ := copy_run (W1 := W4.drew) 28 (.slice ox nx cx) (ia.map hw) (show WordsAt W4 (.slice ox nx cx) (ia.map hw) from s4.x.words) (by have := s4.na; simp; omega)
          have bc' : Below W4.heap.size W4 Wc := ⟨bc.os, bc.tape, bc.output, bc.size, bc.block⟩
          have s5 := s4.below' bc'
          have cp := two_row s5.q ia s5.ka (by have := s5.la; omega) n (by omega) (some ⟨wr.heap.size, 0, none⟩) n (words_below hw4 bc') (fun x e => by cases e; exact k4) vc hwc
          have hrun' : (Builtin.append_ #[28, 28] 28 #[.slice (some ⟨W4.heap.size, 0, none⟩) 0 0, (.slice ox nx cx)]).run Try.prog (W4.alloc (.cells #[] 30)).drew = .ok vc Wc := hrun
          have lt4 := lt_get f4
          have fA : (W4.alloc (.cells #[] 30)).drew.heap[cb]? = some (.cells #[.int .i64 9, .bool false, .int .i64 0, .string ⟨#[]⟩, .slice none 0 0, .slice (some ⟨wr.heap.size, 0, none⟩) n n, .int .u64 0, .int .i64 0, .int .i64 0] 32) := (Below.heap_alloc W4 _ cb lt4).trans f4
          have fC : Wc.heap[cb]? = some (.cells #[.int .i64 9, .bool false, .int .i64 0, .string ⟨#[]⟩, .slice none 0 0, .slice (some ⟨wr.heap.size, 0, none⟩) n n, .int .u64 0, .int .i64 0, .int .i64 0] 32) := (bc'.block _ lt4).trans f4
          have S5 := hid s5
          have HW4 := hid (words_below hw4 bc')
          clear s4 s5 hwc hrun B4 hw4
          refine wp_region_held_drew (S := fun w' => w'.heap[cb]? = some (.cells #[.int .i64 9, .bool false, .int .i64 0, .string ⟨#[]⟩, .slice none 0 0, .slice (some ⟨wr.heap.size, 0, none⟩) n n, .int .u64 0, .int .i64 0, .int .i64 0] 32)) (by kernel_rfl) f4 ?_
          intro hS
          (refine wpAnyH_take (i := 0) (v := ?_) rfl (by kernel_rfl) (by kernel_rfl) (by kernel_rfl) (fun _ _ _ h => h) (Or.inl ⟨by rfl, ?_⟩) hS ?_); rotate_left; (focus (intro w' hSw; (have el := fun j => cell_of_row w' cb j _ _ _ hSw); go_simp; (try with_reducible rfl))); (try simp only [Act.put, List.getElem_toArray, List.getElem_cons_zero, List.getElem_cons_succ, List.setIfInBounds_toArray, List.set_cons_zero, List.set_cons_succ])
          (refine wpAnyH_take (i := 1) (v := ?_) rfl (by kernel_rfl) (by kernel_rfl) (by kernel_rfl) (fun _ _ _ h => h) (Or.inl ⟨by rfl, ?_⟩) hS ?_); rotate_left; (focus (intro w' hSw; (have el := fun j => cell_of_row w' cb j _ _ _ hSw); go_simp; (try with_reducible rfl))); (try simp only [Act.put, List.getElem_toArray, List.getElem_cons_zero, List.getElem_cons_succ, List.setIfInBounds_toArray, List.set_cons_zero, List.set_cons_succ])
          (refine wpAnyH_take (i := 3) (v := ?_) rfl (by kernel_rfl) (by kernel_rfl) (by kernel_rfl) (fun _ _ _ h => h) (Or.inl ⟨by rfl, ?_⟩) hS ?_); rotate_left; (focus (intro w' hSw; (have el := fun j => cell_of_row w' cb j _ _ _ hSw); go_simp; (try with_reducible rfl))); (try simp only [Act.put, List.getElem_toArray, List.getElem_cons_zero, List.getElem_cons_succ, List.setIfInBounds_toArray, List.set_cons_zero, List.set_cons_succ])
          refine wpAnyH_ready (rs := [2]) (by kernel_rfl) (by simp) ?_
          refine AllReadyH.cons rfl (fun K hK => ?_) AllReadyH.nil
          go_simp
          refine hK.out _ _ fA (fun hS2 => ?_)
          clear hK K hS fA
          (try simp only [Act.put, List.getElem_toArray, List.getElem_cons_zero, List.getElem_cons_succ, List.setIfInBounds_toArray, List.set_cons_zero, List.set_cons_succ])
          refine wpAnyH_ready (rs := [4]) (by kernel_rfl) (by simp) ?_
          refine AllReadyH.cons rfl (fun K hK => ?_) AllReadyH.nil
          rw [if_pos (by rfl)]
          refine Lib.wp_append_run _ (.tmp 81) (.tmp 82) 28 28 rfl _ _ rfl rfl _ _ hrun' ?_
          refine hK.out _ _ fC (fun hS3 => ?_)
          clear hK K hS2 hrun'
          (try simp only [Act.put, List.getElem_toArray, List.getElem_cons_zero, List.getElem_cons_succ, List.setIfInBounds_toArray, List.set_cons_zero, List.set_cons_succ])
          refine wpAnyH_ready (rs := [5]) (by kernel_rfl) (by simp) ?_
          refine AllReadyH.cons rfl (fun K hK => ?_) AllReadyH.nil
          go_simp
          refine cp.mono ?_
          intro e w6 hP
          obtain ⟨pp, gg, rfl, hH⟩ := S5.out.first hP
          have f6 : w6.heap[cb]? = some (.cells #[.int .i64 9, .bool false, .int .i64 0, .string ⟨#[]⟩, .slice none 0 0, .slice (some ⟨wr.heap.size, 0, none⟩) n n, .int .u64 0, .int .i64 0, .int .i64 0] 32) := (hP.1.block cb (lt_get fC) (fun e => e.1 k4')).trans fC
          refine hK.out _ _ f6 (fun hS4 => ?_)
          clear hK K hS3 cp fC f4 HW4 S5 bc bc' k4 k4' hP
          (try simp only [Act.put, List.getElem_toArray, List.getElem_cons_zero, List.getElem_cons_succ, List.setIfInBounds_toArray, List.set_cons_zero, List.set_cons_succ])
          (refine wpAnyH_take (i := 6) (v := ?_) rfl (by kernel_rfl) (by kernel_rfl) (by kernel_rfl) (fun _ _ _ h => h) (Or.inl ⟨by rfl, ?_⟩) hS4 ?_); rotate_left; (focus (intro w' hSw; (have el := fun j => cell_of_row w' cb j _ _ _ hSw); go_simp; (try with_reducible rfl))); (try simp only [Act.put, List.getElem_toArray, List.getElem_cons_zero, List.getElem_cons_succ, List.setIfInBounds_toArray, List.set_cons_zero, List.set_cons_succ])
          (refine wpAnyH_take (i := 7) (v := ?_) rfl (by kernel_rfl) (by kernel_rfl) (by kernel_rfl) (fun _ _ _ h => h) (Or.inl ⟨by rfl, ?_⟩) hS4 ?_); rotate_left; (focus (intro w' hSw; (have el := fun j => cell_of_row w' cb j _ _ _ hSw); go_simp; (try with_reducible rfl))); (try simp only [Act.put, List.getElem_toArray, List.getElem_cons_zero, List.getElem_cons_succ, List.setIfInBounds_toArray, List.set_cons_zero, List.set_cons_succ])
          (refine wpAnyH_take (i := 8) (v := ?_) rfl (by kernel_rfl) (by kernel_rfl) (by kernel_rfl) (fun _ _ _ h => h) (Or.inl ⟨by rfl, ?_⟩) hS4 ?_); rotate_left; (focus (intro w' hSw; (have el := fun j => cell_of_row w' cb j _ _ _ hSw); go_simp; (try with_reducible rfl))); (try simp only [Act.put, List.getElem_toArray, List.getElem_cons_zero, List.getElem_cons_succ, List.setIfInBounds_toArray, List.set_cons_zero, List.set_cons_succ])
          (refine wpAnyH_take (i := 9) (v := ?_) rfl (by kernel_rfl) (by kernel_rfl) (by kernel_rfl) (fun _ _ _ h => h) (Or.inl ⟨by rfl, ?_⟩) hS4 ?_); rotate_left; (focus (intro w' hSw; (have el := fun j => cell_of_row w' cb j _ _ _ hSw); go_simp; (try with_reducible rfl))); (try simp only [Act.put, List.getElem_toArray, List.getElem_cons_zero, List.getElem_cons_succ, List.setIfInBounds_toArray, List.set_cons_zero, List.set_cons_succ])
          (refine wpAnyH_take (i := 10) (v := ?_) rfl (by kernel_rfl) (by kernel_rfl) (by kernel_rfl) (fun _ _ _ h => h) (Or.inl ⟨by rfl, ?_⟩) hS4 ?_); rotate_left; (focus (intro w' hSw; (have el := fun j => cell_of_row w' cb j _ _ _ hSw); go_simp; (try with_reducible rfl))); (try simp only [Act.put, List.getElem_toArray, List.getElem_cons_zero, List.getElem_cons_succ, List.setIfInBounds_toArray, List.set_cons_zero, List.set_cons_succ])
          refine wpAnyH_done (by kernel_rfl) ?_ _
          clear hS4 f6
          have HH := hid hH
          clear hH
          go_upto_region 15 with fail
          have c6 := HC.out w6 HH.out.bel
          obtain ⟨wy, ly⟩ := HH.out.words
          have ly' : (ib.map hw).length ≤ 900000 := by simp; omega
          obtain ⟨M1, m1, bM1, vr1, F1, a1, P1⟩ := prep1 w6 n hn1 (.slice oy ny cy) (ib.map hw) wy ly'
          obtain ⟨M2, m2, bM2, vr2, F2, a2, P2⟩ := prep2 w6 n hn1 (.slice oy ny cy) (ib.map hw) wy ly'
          obtain ⟨vr3, M3, a3, bM3, F3, m3, P3⟩ := prep3 w6 n hn1 (.slice oy ny cy) (ib.map hw) wy ly'
          have p1 := HH.out.put (by omega) hn1 P1
          have p2 := HH.out.put (by omega) hn1 P2
          have p3 := HH.out.put (by omega) hn1 P3
          have bw := HH.out.bel
          have d1 := HC.out M1 (bw.trans (bM1.mono bw.size))
          have d2 := HC.out M2 (bw.trans (bM2.mono bw.size))
          have d3 := HC.out M3 (bw.trans (bM3.mono bw.size))
          have e1 := HC.out F1 (bw.trans (P1.bel.mono bw.size))
          have e2 := HC.out F2 (bw.trans (P2.bel.mono bw.size))
          have e3 := HC.out F3 (bw.trans (P3.bel.mono bw.size))
          have cA : (w6.alloc (.cells #[] 30)).drew.cell? (a.add j) = some (.int .i64 (n : Int)) := HC.out _ (bw.alloc bw.size _).drew
          have cM : (M1.alloc (.cells #[] 30)).cell? (a.add j) = some (.int .i64 (n : Int)) := HC.out _ ((bw.trans (bM1.mono bw.size)).alloc (Nat.le_trans bw.size bM1.size) _)
          clear wy ly ly' P1 P2 P3 bM1 bM2 bM3 bw
          refine wp_region_held_drew (S := fun w' => w'.cell? (a.add j) = some (.int .i64 (n : Int))) (by kernel_rfl) c6 ?_
          intro hS
          (refine wpAnyH_take (i := 0) (v := ?_) rfl (by kernel_rfl) (by kernel_rfl) (by kernel_rfl) (fun _ _ _ h => h) (Or.inl ⟨by rfl, ?_⟩) hS ?_); rotate_left; (focus (intro w' hSw; (have el := hSw); go_simp; (try with_reducible rfl))); (try simp only [Act.put, List.getElem_toArray, List.getElem_cons_zero, List.getElem_cons_succ, List.setIfInBounds_toArray, List.set_cons_zero, List.set_cons_succ])
          (refine wpAnyH_take (i := 1) (v := ?_) rfl (by kernel_rfl) (by kernel_rfl) (by kernel_rfl) (fun _ _ _ h => h) (Or.inl ⟨by rfl, ?_⟩) hS ?_); rotate_left; (focus (intro w' hSw; (have el := hSw); go_simp; (try with_reducible rfl))); (try simp only [Act.put, List.getElem_toArray, List.getElem_cons_zero, List.getElem_cons_succ, List.setIfInBounds_toArray, List.set_cons_zero, List.set_cons_succ])
          (refine wpAnyH_take (i := 2) (v := ?_) rfl (by kernel_rfl) (by kernel_rfl) (by kernel_rfl) (fun _ _ _ h => h) (Or.inl ⟨by rfl, ?_⟩) hS ?_); rotate_left; (focus (intro w' hSw; (have el := hSw); go_simp; (try with_reducible rfl))); (try simp only [Act.put, List.getElem_toArray, List.getElem_cons_zero, List.getElem_cons_succ, List.setIfInBounds_toArray, List.set_cons_zero, List.set_cons_succ])
          (refine wpAnyH_take (i := 3) (v := ?_) rfl (by kernel_rfl) (by kernel_rfl) (by kernel_rfl) (fun _ _ _ h => h) (Or.inl ⟨by rfl, ?_⟩) hS ?_); rotate_left; (focus (intro w' hSw; (have el := hSw); go_simp; (try with_reducible rfl))); (try simp only [Act.put, List.getElem_toArray, List.getElem_cons_zero, List.getElem_cons_succ, List.setIfInBounds_toArray, List.set_cons_zero, List.set_cons_succ])
          (refine wpAnyH_take (i := 4) (v := ?_) rfl (by kernel_rfl) (by kernel_rfl) (by kernel_rfl) (fun _ _ _ h => h) (Or.inl ⟨by rfl, ?_⟩) hS ?_); rotate_left; (focus (intro w' hSw; (have el := hSw); go_simp; (try with_reducible rfl))); (try simp only [Act.put, List.getElem_toArray, List.getElem_cons_zero, List.getElem_cons_succ, List.setIfInBounds_toArray, List.set_cons_zero, List.set_cons_succ])
          (refine wpAnyH_take (i := 8) (v := ?_) rfl (by kernel_rfl) (by kernel_rfl) (by kernel_rfl) (fun _ _ _ h => h) (Or.inl ⟨by rfl, ?_⟩) hS ?_); rotate_left; (focus (intro w' hSw; (have el := hSw); go_simp; (try with_reducible rfl))); (try simp only [Act.put, List.getElem_toArray, List.getElem_cons_zero, List.getElem_cons_succ, List.setIfInBounds_toArray, List.set_cons_zero, List.set_cons_succ])
          refine wpAnyH_ready (rs := [5, 7]) (by kernel_rfl) (by simp) ?_
          refine AllReadyH.cons rfl (fun K hK => ?_) (AllReadyH.cons rfl (fun K hK => ?_) AllReadyH.nil)
          · go_simp
            refine hK.out _ _ d1 (fun hS2 => ?_)
            clear hK K
            (try simp only [Act.put, List.getElem_toArray, List.getElem_cons_zero, List.getElem_cons_succ, List.setIfInBounds_toArray, List.set_cons_zero, List.set_cons_succ])
            (refine wpAnyH_take (i := 6) (v := ?_) rfl (by kernel_rfl) (by kernel_rfl) (by kernel_rfl) (fun _ _ _ h => h) (Or.inl ⟨by rfl, ?_⟩) hS2 ?_); rotate_left; (focus (intro w' hSw; (have el := hSw); go_simp; (try with_reducible rfl))); (try simp only [Act.put, List.getElem_toArray, List.getElem_cons_zero, List.getElem_cons_succ, List.setIfInBounds_toArray, List.set_cons_zero, List.set_cons_succ])
            refine wpAnyH_ready (rs := [7]) (by kernel_rfl) (by simp) ?_
            refine AllReadyH.cons rfl (fun K hK => ?_) AllReadyH.nil
            go_simp
            refine hK.out _ _ cM (fun hS3 => ?_)
            clear hK K hS2
            (try simp only [Act.put, List.getElem_toArray, List.getElem_cons_zero, List.getElem_cons_succ, List.setIfInBounds_toArray, List.set_cons_zero, List.set_cons_succ])
            refine wpAnyH_ready (rs := [9]) (by kernel_rfl) (by simp) ?_
            refine AllReadyH.cons rfl (fun K hK => ?_) AllReadyH.nil
            rw [if_pos (by rfl)]
            refine Lib.wp_append_run _ (.tmp 95) (.tmp 96) 28 28 rfl _ _ rfl rfl _ _ a1 ?_
            refine hK.out _ _ e1 (fun hS4 => ?_)
            clear hK K hS3
            (try simp only [Act.put, List.getElem_toArray, List.getElem_cons_zero, List.getElem_cons_succ, List.setIfInBounds_toArray, List.set_cons_zero, List.set_cons_succ])
            refine wpAnyH_ready (rs := [10]) (by kernel_rfl) (by simp) ?_
            refine AllReadyH.cons rfl (fun K hK => ?_) AllReadyH.nil
            go_simp
            refine p1.mono ?_
            rintro e w7 ⟨qq, gh, K7, rfl, sb⟩
            have c7 := HC.out w7 sb.bel
            refine hK.out _ _ c7 (fun hS9 => ?_)
            clear hK K c7
            (try simp only [Act.put, List.getElem_toArray, List.getElem_cons_zero, List.getElem_cons_succ, List.setIfInBounds_toArray, List.set_cons_zero, List.set_cons_succ])
            (refine wpAnyH_take (i := 11) (v := ?_) rfl (by kernel_rfl) (by kernel_rfl) (by kernel_rfl) (fun _ _ _ h => h) (Or.inl ⟨by rfl, ?_⟩) hS9 ?_); rotate_left; (focus (intro w' hSw; (have el := hSw); go_simp; (try with_reducible rfl))); (try simp only [Act.put, List.getElem_toArray, List.getElem_cons_zero, List.getElem_cons_succ, List.setIfInBounds_toArray, List.set_cons_zero, List.set_cons_succ])
            (refine wpAnyH_take (i := 12) (v := ?_) rfl (by kernel_rfl) (by kernel_rfl) (by kernel_rfl) (fun _ _ _ h => h) (Or.inl ⟨by rfl, ?_⟩) hS9 ?_); rotate_left; (focus (intro w' hSw; (have el := hSw); go_simp; (try with_reducible rfl))); (try simp only [Act.put, List.getElem_toArray, List.getElem_cons_zero, List.getElem_cons_succ, List.setIfInBounds_toArray, List.set_cons_zero, List.set_cons_succ])
            (refine wpAnyH_take (i := 13) (v := ?_) rfl (by kernel_rfl) (by kernel_rfl) (by kernel_rfl) (fun _ _ _ h => h) (Or.inl ⟨by rfl, ?_⟩) hS9 ?_); rotate_left; (focus (intro w' hSw; (have el := hSw); go_simp; (try with_reducible rfl))); (try simp only [Act.put, List.getElem_toArray, List.getElem_cons_zero, List.getElem_cons_succ, List.setIfInBounds_toArray, List.set_cons_zero, List.set_cons_succ])
            (refine wpAnyH_take (i := 14) (v := ?_) rfl (by kernel_rfl) (by kernel_rfl) (by kernel_rfl) (fun _ _ _ h => h) (Or.inl ⟨by rfl, ?_⟩) hS9 ?_); rotate_left; (focus (intro w' hSw; (have el := hSw); go_simp; (try with_reducible rfl))); (try simp only [Act.put, List.getElem_toArray, List.getElem_cons_zero, List.getElem_cons_succ, List.setIfInBounds_toArray, List.set_cons_zero, List.set_cons_succ])
            (refine wpAnyH_take (i := 15) (v := ?_) rfl (by kernel_rfl) (by kernel_rfl) (by kernel_rfl) (fun _ _ _ h => h) (Or.inl ⟨by rfl, ?_⟩) hS9 ?_); rotate_left; (focus (intro w' hSw; (have el := hSw); go_simp; (try with_reducible rfl))); (try simp only [Act.put, List.getElem_toArray, List.getElem_cons_zero, List.getElem_cons_succ, List.setIfInBounds_toArray, List.set_cons_zero, List.set_cons_succ])
            refine wpAnyH_done (by kernel_rfl) ?_ _
            clear hS9 p1 p2 p3 m1 m2 m3 a1 a2 a3 d1 d2 d3 e1 e2 e3 cA cM c6 hS
            have h1 := sb.eq
            have h2 := sb.gs
            subst h1
            clear HH
            rcases h2 with h2 | h2
            all_goals subst h2
            · by_cases cm : j < m
              · have hp : ∃ b, p = some b := by
                  rcases R2 with h | ⟨b, e, _⟩
                  · omega
                  · exact ⟨b, e⟩
                obtain ⟨b, rfl⟩ := hp
                have hBc : w7.cell? (b.add j) = some (.bool (B j)) := by
                  rcases R2 with ⟨e, _⟩ | ⟨b', e, _, _, h⟩
                  · cases e
                  · injection e with e
                    subst e
                    have hc := h j cm
                    exact (sb.bel.cell (World.block_lt_of_cell? w _ hc)).trans hc
                have j2 : (j : Int) < m := by omega
                by_cases hBj : B j = true
                · rw [hBj] at hBc
                  obtain ⟨vx', W8, vy', W9, r1, r2, Ha2, Hb2, ia2, ib2, K2, sm2⟩ := sb.keep (by omega) 28
                  obtain ⟨ox2, cx2, hvx2⟩ := slice_of (owns_base sm2.x.row (b' := 0) (fun _ _ => Nat.zero_le _))
                  obtain ⟨oy2, cy2, hvy2⟩ := slice_of (owns_base sm2.y.row (b' := 0) (fun _ _ => Nat.zero_le _))
                  generalize (ia2.map hw).length = nx2 at hvx2
                  generalize (ib2.map hw).length = ny2 at hvy2
                  subst hvx2
                  subst hvy2
                  have SM2 := hid sm2
                  clear sb sm2
                  go_upto_region 20 with (first | (at_builtin; refine Lib.wpList_append_run _ rfl (.tmp 118) (.tmp 120) 28 28 rfl _ _ (by simp [Act.eval]) (by simp [Act.eval]) _ _ r1 ?_) | (at_builtin; refine Lib.wpList_append_run _ rfl (.tmp 122) (.tmp 124) 28 28 rfl _ _ (by simp [Act.eval]) (by simp [Act.eval]) _ _ r2 ?_))
                  have sm2 := SM2.out
                  clear SM2 r1 r2 hBc
                  obtain ⟨vz, Wz, rz, wz, bz⟩ := copy_run (W1 := W9) 28 (.slice oy2 ny2 cy2) (ib2.map hw) sm2.y.words (by have := sm2.nb; simp; omega)
                  have cc := (sm2.below' bz).collect vz wz
                  clear sm2 wz bz
                  go_upto_region 21 with (first | (at_builtin; refine Lib.wpList_append_run _ rfl (.tmp 127) (.tmp 128) 28 28 rfl _ _ (by simp [Act.eval]) (by simp [Act.eval]) _ _ rz ?_) | (go_at_call 9; (with_reducible refine cc.mono ?_); rintro e w10 ⟨rfl, H10, sm10⟩; (have SMZ := hid sm10); (have ca := sm10.ra); clear cc sm10))
                  clear rz
                  go_wp2_with (first | (go_at_call 10; (with_reducible refine ca.mono ?_); rintro e w11 ⟨rfl, b11⟩; (have cb := (SMZ.out.below' b11).rb); clear ca) | (go_at_call 10; (with_reducible refine cb.mono ?_); rintro e w12 ⟨rfl, b12⟩; clear cb))
                  go_roundw
                  case rel => exact ⟨j + 1, _, _, _, _, _, by omega, by go_num, (SMZ.out.below' b11).below' b12⟩
                  case measure => simp [intOf]; omega
                · rw [show B j = false by simpa using hBj] at hBc
                  have SB := hid sb
                  clear sb
                  go_upto_region 20 with fail
                  obtain ⟨Ha1, Hb1, sm1, _⟩ := SB.out.stay
                  clear SB hBc
                  obtain ⟨vz, Wz, rz, wz, bz⟩ := copy_run (W1 := w7) 28 (.slice oy ny cy) (ib.map hw) sm1.y.words (by have := sm1.nb; simp; omega)
                  have cc := (sm1.below' bz).collect vz wz
                  clear sm1 wz bz
                  go_upto_region 21 with (first | (at_builtin; refine Lib.wpList_append_run _ rfl (.tmp 127) (.tmp 128) 28 28 rfl _ _ (by simp [Act.eval]) (by simp [Act.eval]) _ _ rz ?_) | (go_at_call 9; (with_reducible refine cc.mono ?_); rintro e w10 ⟨rfl, H10, sm10⟩; (have SMZ := hid sm10); (have ca := sm10.ra); clear cc sm10))
                  clear rz
                  go_wp2_with (first | (go_at_call 10; (with_reducible refine ca.mono ?_); rintro e w11 ⟨rfl, b11⟩; (have cb := (SMZ.out.below' b11).rb); clear ca) | (go_at_call 10; (with_reducible refine cb.mono ?_); rintro e w12 ⟨rfl, b12⟩; clear cb))
                  go_roundw
                  case rel => exact ⟨j + 1, _, _, _, _, _, by omega, by go_num, (SMZ.out.below' b11).below' b12⟩
                  case measure => simp [intOf]; omega
              · have j2 : ¬ (j : Int) < m := by omega
                have SB := hid sb
                clear sb
                go_upto_region 20 with fail
                obtain ⟨Ha1, Hb1, sm1, _⟩ := SB.out.stay
                clear SB
                obtain ⟨vz, Wz, rz, wz, bz⟩ := copy_run (W1 := w7) 28 (.slice oy ny cy) (ib.map hw) sm1.y.words (by have := sm1.nb; simp; omega)
                have cc := (sm1.below' bz).collect vz wz
                clear sm1 wz bz
                go_upto_region 21 with (first | (at_builtin; refine Lib.wpList_append_run _ rfl (.tmp 127) (.tmp 128) 28 28 rfl _ _ (by simp [Act.eval]) (by simp [Act.eval]) _ _ rz ?_) | (go_at_call 9; (with_reducible refine cc.mono ?_); rintro e w10 ⟨rfl, H10, sm10⟩; (have SMZ := hid sm10); (have ca := sm10.ra); clear cc sm10))
                clear rz
                go_wp2_with (first | (go_at_call 10; (with_reducible refine ca.mono ?_); rintro e w11 ⟨rfl, b11⟩; (have cb := (SMZ.out.below' b11).rb); clear ca) | (go_at_call 10; (with_reducible refine cb.mono ?_); rintro e w12 ⟨rfl, b12⟩; clear cb))
                go_roundw
                case rel => exact ⟨j + 1, _, _, _, _, _, by omega, by go_num, (SMZ.out.below' b11).below' b12⟩
                case measure => simp [intOf]; omega
            · have SB := hid sb
              clear sb
              go_upto_region 20 with fail
              obtain ⟨Ha1, Hb1, sm1, _⟩ := SB.out.stay
              clear SB
              obtain ⟨vz, Wz, rz, wz, bz⟩ := copy_run (W1 := w7) 28 (.slice oy ny cy) (ib.map hw) sm1.y.words (by have := sm1.nb; simp; omega)
              have cc := (sm1.below' bz).collect vz wz
              clear sm1 wz bz
              go_upto_region 21 with (first | (at_builtin; refine Lib.wpList_append_run _ rfl (.tmp 127) (.tmp 128) 28 28 rfl _ _ (by simp [Act.eval]) (by simp [Act.eval]) _ _ rz ?_) | (go_at_call 9; (with_reducible refine cc.mono ?_); rintro e w10 ⟨rfl, H10, sm10⟩; (have SMZ := hid sm10); (have ca := sm10.ra); clear cc sm10))
              clear rz
              go_wp2_with (first | (go_at_call 10; (with_reducible refine ca.mono ?_); rintro e w11 ⟨rfl, b11⟩; (have cb := (SMZ.out.below' b11).rb); clear ca) | (go_at_call 10; (with_reducible refine cb.mono ?_); rintro e w12 ⟨rfl, b12⟩; clear cb))
              go_roundw
              case rel => exact ⟨j + 1, _, _, _, _, _, by omega, by go_num, (SMZ.out.below' b11).below' b12⟩
              case measure => simp [intOf]; omega
          · go_simp
            refine hK.out _ _ cA (fun hS2 => ?_)
            clear hK K
            (try simp only [Act.put, List.getElem_toArray, List.getElem_cons_zero, List.getElem_cons_succ, List.setIfInBounds_toArray, List.set_cons_zero, List.set_cons_succ])
            refine wpAnyH_ready (rs := [5, 9]) (by kernel_rfl) (by simp) ?_
            refine AllReadyH.cons rfl (fun K hK => ?_) (AllReadyH.cons rfl (fun K hK => ?_) AllReadyH.nil)
            · go_simp
              refine hK.out _ _ d2 (fun hS3 => ?_)
              clear hK K hS2
              (try simp only [Act.put, List.getElem_toArray, List.getElem_cons_zero, List.getElem_cons_succ, List.setIfInBounds_toArray, List.set_cons_zero, List.set_cons_succ])
              (refine wpAnyH_take (i := 6) (v := ?_) rfl (by kernel_rfl) (by kernel_rfl) (by kernel_rfl) (fun _ _ _ h => h) (Or.inl ⟨by rfl, ?_⟩) hS3 ?_); rotate_left; (focus (intro w' hSw; (have el := hSw); go_simp; (try with_reducible rfl))); (try simp only [Act.put, List.getElem_toArray, List.getElem_cons_zero, List.getElem_cons_succ, List.setIfInBounds_toArray, List.set_cons_zero, List.set_cons_succ])
              refine wpAnyH_ready (rs := [9]) (by kernel_rfl) (by simp) ?_
              refine AllReadyH.cons rfl (fun K hK => ?_) AllReadyH.nil
              rw [if_pos (by rfl)]
              refine Lib.wp_append_run _ (.tmp 95) (.tmp 96) 28 28 rfl _ _ rfl rfl _ _ a2 ?_
              refine hK.out _ _ e2 (fun hS4 => ?_)
              clear hK K hS3
              (try simp only [Act.put, List.getElem_toArray, List.getElem_cons_zero, List.getElem_cons_succ, List.setIfInBounds_toArray, List.set_cons_zero, List.set_cons_succ])
              refine wpAnyH_ready (rs := [10]) (by kernel_rfl) (by simp) ?_
              refine AllReadyH.cons rfl (fun K hK => ?_) AllReadyH.nil
              go_simp
              refine p2.mono ?_
              rintro e w7 ⟨qq, gh, K7, rfl, sb⟩
              have c7 := HC.out w7 sb.bel
              refine hK.out _ _ c7 (fun hS9 => ?_)
              clear hK K c7
              (try simp only [Act.put, List.getElem_toArray, List.getElem_cons_zero, List.getElem_cons_succ, List.setIfInBounds_toArray, List.set_cons_zero, List.set_cons_succ])
              (refine wpAnyH_take (i := 11) (v := ?_) rfl (by kernel_rfl) (by kernel_rfl) (by kernel_rfl) (fun _ _ _ h => h) (Or.inl ⟨by rfl, ?_⟩) hS9 ?_); rotate_left; (focus (intro w' hSw; (have el := hSw); go_simp; (try with_reducible rfl))); (try simp only [Act.put, List.getElem_toArray, List.getElem_cons_zero, List.getElem_cons_succ, List.setIfInBounds_toArray, List.set_cons_zero, List.set_cons_succ])
              (refine wpAnyH_take (i := 12) (v := ?_) rfl (by kernel_rfl) (by kernel_rfl) (by kernel_rfl) (fun _ _ _ h => h) (Or.inl ⟨by rfl, ?_⟩) hS9 ?_); rotate_left; (focus (intro w' hSw; (have el := hSw); go_simp; (try with_reducible rfl))); (try simp only [Act.put, List.getElem_toArray, List.getElem_cons_zero, List.getElem_cons_succ, List.setIfInBounds_toArray, List.set_cons_zero, List.set_cons_succ])
              (refine wpAnyH_take (i := 13) (v := ?_) rfl (by kernel_rfl) (by kernel_rfl) (by kernel_rfl) (fun _ _ _ h => h) (Or.inl ⟨by rfl, ?_⟩) hS9 ?_); rotate_left; (focus (intro w' hSw; (have el := hSw); go_simp; (try with_reducible rfl))); (try simp only [Act.put, List.getElem_toArray, List.getElem_cons_zero, List.getElem_cons_succ, List.setIfInBounds_toArray, List.set_cons_zero, List.set_cons_succ])
              (refine wpAnyH_take (i := 14) (v := ?_) rfl (by kernel_rfl) (by kernel_rfl) (by kernel_rfl) (fun _ _ _ h => h) (Or.inl ⟨by rfl, ?_⟩) hS9 ?_); rotate_left; (focus (intro w' hSw; (have el := hSw); go_simp; (try with_reducible rfl))); (try simp only [Act.put, List.getElem_toArray, List.getElem_cons_zero, List.getElem_cons_succ, List.setIfInBounds_toArray, List.set_cons_zero, List.set_cons_succ])
              (refine wpAnyH_take (i := 15) (v := ?_) rfl (by kernel_rfl) (by kernel_rfl) (by kernel_rfl) (fun _ _ _ h => h) (Or.inl ⟨by rfl, ?_⟩) hS9 ?_); rotate_left; (focus (intro w' hSw; (have el := hSw); go_simp; (try with_reducible rfl))); (try simp only [Act.put, List.getElem_toArray, List.getElem_cons_zero, List.getElem_cons_succ, List.setIfInBounds_toArray, List.set_cons_zero, List.set_cons_succ])
              refine wpAnyH_done (by kernel_rfl) ?_ _
              clear hS9 p1 p2 p3 m1 m2 m3 a1 a2 a3 d1 d2 d3 e1 e2 e3 cA cM c6 hS
              have h1 := sb.eq
              have h2 := sb.gs
              subst h1
              clear HH
              rcases h2 with h2 | h2
              all_goals subst h2
              · by_cases cm : j < m
                · have hp : ∃ b, p = some b := by
                    rcases R2 with h | ⟨b, e, _⟩
                    · omega
                    · exact ⟨b, e⟩
                  obtain ⟨b, rfl⟩ := hp
                  have hBc : w7.cell? (b.add j) = some (.bool (B j)) := by
                    rcases R2 with ⟨e, _⟩ | ⟨b', e, _, _, h⟩
                    · cases e
                    · injection e with e
                      subst e
                      have hc := h j cm
                      exact (sb.bel.cell (World.block_lt_of_cell? w _ hc)).trans hc
                  have j2 : (j : Int) < m := by omega
                  by_cases hBj : B j = true
                  · rw [hBj] at hBc
                    obtain ⟨vx', W8, vy', W9, r1, r2, Ha2, Hb2, ia2, ib2, K2, sm2⟩ := sb.keep (by omega) 28
                    obtain ⟨ox2, cx2, hvx2⟩ := slice_of (owns_base sm2.x.row (b' := 0) (fun _ _ => Nat.zero_le _))
                    obtain ⟨oy2, cy2, hvy2⟩ := slice_of (owns_base sm2.y.row (b' := 0) (fun _ _ => Nat.zero_le _))
                    generalize (ia2.map hw).length = nx2 at hvx2
                    generalize (ib2.map hw).length = ny2 at hvy2
                    subst hvx2
                    subst hvy2
                    have SM2 := hid sm2
                    clear sb sm2
                    go_upto_region 20 with (first | (at_builtin; refine Lib.wpList_append_run _ rfl (.tmp 118) (.tmp 120) 28 28 rfl _ _ (by simp [Act.eval]) (by simp [Act.eval]) _ _ r1 ?_) | (at_builtin; refine Lib.wpList_append_run _ rfl (.tmp 122) (.tmp 124) 28 28 rfl _ _ (by simp [Act.eval]) (by simp [Act.eval]) _ _ r2 ?_))
                    have sm2 := SM2.out
                    clear SM2 r1 r2 hBc
                    obtain ⟨vz, Wz, rz, wz, bz⟩ := copy_run (W1 := W9) 28 (.slice oy2 ny2 cy2) (ib2.map hw) sm2.y.words (by have := sm2.nb; simp; omega)
                    have cc := (sm2.below' bz).collect vz wz
                    clear sm2 wz bz
                    go_upto_region 21 with (first | (at_builtin; refine Lib.wpList_append_run _ rfl (.tmp 127) (.tmp 128) 28 28 rfl _ _ (by simp [Act.eval]) (by simp [Act.eval]) _ _ rz ?_) | (go_at_call 9; (with_reducible refine cc.mono ?_); rintro e w10 ⟨rfl, H10, sm10⟩; (have SMZ := hid sm10); (have ca := sm10.ra); clear cc sm10))
                    clear rz
                    go_wp2_with (first | (go_at_call 10; (with_reducible refine ca.mono ?_); rintro e w11 ⟨rfl, b11⟩; (have cb := (SMZ.out.below' b11).rb); clear ca) | (go_at_call 10; (with_reducible refine cb.mono ?_); rintro e w12 ⟨rfl, b12⟩; clear cb))
                    go_roundw
                    case rel => exact ⟨j + 1, _, _, _, _, _, by omega, by go_num, (SMZ.out.below' b11).below' b12⟩
                    case measure => simp [intOf]; omega
                  · rw [show B j = false by simpa using hBj] at hBc
                    have SB := hid sb
                    clear sb
                    go_upto_region 20 with fail
                    obtain ⟨Ha1, Hb1, sm1, _⟩ := SB.out.stay
                    clear SB hBc
                    obtain ⟨vz, Wz, rz, wz, bz⟩ := copy_run (W1 := w7) 28 (.slice oy ny cy) (ib.map hw) sm1.y.words (by have := sm1.nb; simp; omega)
                    have cc := (sm1.below' bz).collect vz wz
                    clear sm1 wz bz
                    go_upto_region 21 with (first | (at_builtin; refine Lib.wpList_append_run _ rfl (.tmp 127) (.tmp 128) 28 28 rfl _ _ (by simp [Act.eval]) (by simp [Act.eval]) _ _ rz ?_) | (go_at_call 9; (with_reducible refine cc.mono ?_); rintro e w10 ⟨rfl, H10, sm10⟩; (have SMZ := hid sm10); (have ca := sm10.ra); clear cc sm10))
                    clear rz
                    go_wp2_with (first | (go_at_call 10; (with_reducible refine ca.mono ?_); rintro e w11 ⟨rfl, b11⟩; (have cb := (SMZ.out.below' b11).rb); clear ca) | (go_at_call 10; (with_reducible refine cb.mono ?_); rintro e w12 ⟨rfl, b12⟩; clear cb))
                    go_roundw
                    case rel => exact ⟨j + 1, _, _, _, _, _, by omega, by go_num, (SMZ.out.below' b11).below' b12⟩
                    case measure => simp [intOf]; omega
                · have j2 : ¬ (j : Int) < m := by omega
                  have SB := hid sb
                  clear sb
                  go_upto_region 20 with fail
                  obtain ⟨Ha1, Hb1, sm1, _⟩ := SB.out.stay
                  clear SB
                  obtain ⟨vz, Wz, rz, wz, bz⟩ := copy_run (W1 := w7) 28 (.slice oy ny cy) (ib.map hw) sm1.y.words (by have := sm1.nb; simp; omega)
                  have cc := (sm1.below' bz).collect vz wz
                  clear sm1 wz bz
                  go_upto_region 21 with (first | (at_builtin; refine Lib.wpList_append_run _ rfl (.tmp 127) (.tmp 128) 28 28 rfl _ _ (by simp [Act.eval]) (by simp [Act.eval]) _ _ rz ?_) | (go_at_call 9; (with_reducible refine cc.mono ?_); rintro e w10 ⟨rfl, H10, sm10⟩; (have SMZ := hid sm10); (have ca := sm10.ra); clear cc sm10))
                  clear rz
                  go_wp2_with (first | (go_at_call 10; (with_reducible refine ca.mono ?_); rintro e w11 ⟨rfl, b11⟩; (have cb := (SMZ.out.below' b11).rb); clear ca) | (go_at_call 10; (with_reducible refine cb.mono ?_); rintro e w12 ⟨rfl, b12⟩; clear cb))
                  go_roundw
                  case rel => exact ⟨j + 1, _, _, _, _, _, by omega, by go_num, (SMZ.out.below' b11).below' b12⟩
                  case measure => simp [intOf]; omega
              · have SB := hid sb
                clear sb
                go_upto_region 20 with fail
                obtain ⟨Ha1, Hb1, sm1, _⟩ := SB.out.stay
                clear SB
                obtain ⟨vz, Wz, rz, wz, bz⟩ := copy_run (W1 := w7) 28 (.slice oy ny cy) (ib.map hw) sm1.y.words (by have := sm1.nb; simp; omega)
                have cc := (sm1.below' bz).collect vz wz
                clear sm1 wz bz
                go_upto_region 21 with (first | (at_builtin; refine Lib.wpList_append_run _ rfl (.tmp 127) (.tmp 128) 28 28 rfl _ _ (by simp [Act.eval]) (by simp [Act.eval]) _ _ rz ?_) | (go_at_call 9; (with_reducible refine cc.mono ?_); rintro e w10 ⟨rfl, H10, sm10⟩; (have SMZ := hid sm10); (have ca := sm10.ra); clear cc sm10))
                clear rz
                go_wp2_with (first | (go_at_call 10; (with_reducible refine ca.mono ?_); rintro e w11 ⟨rfl, b11⟩; (have cb := (SMZ.out.below' b11).rb); clear ca) | (go_at_call 10; (with_reducible refine cb.mono ?_); rintro e w12 ⟨rfl, b12⟩; clear cb))
                go_roundw
                case rel => exact ⟨j + 1, _, _, _, _, _, by omega, by go_num, (SMZ.out.below' b11).below' b12⟩
                case measure => simp [intOf]; omega
            · rw [if_pos (by rfl)]
              refine Lib.wp_append_run _ (.tmp 95) (.tmp 96) 28 28 rfl _ _ rfl rfl _ _ a3 ?_
              refine hK.out _ _ d3 (fun hS3 => ?_)
              clear hK K hS2
              (try simp only [Act.put, List.getElem_toArray, List.getElem_cons_zero, List.getElem_cons_succ, List.setIfInBounds_toArray, List.set_cons_zero, List.set_cons_succ])
              refine wpAnyH_ready (rs := [5]) (by kernel_rfl) (by simp) ?_
              refine AllReadyH.cons rfl (fun K hK => ?_) AllReadyH.nil
              go_simp
              refine hK.out _ _ e3 (fun hS4 => ?_)
              clear hK K hS3
              (try simp only [Act.put, List.getElem_toArray, List.getElem_cons_zero, List.getElem_cons_succ, List.setIfInBounds_toArray, List.set_cons_zero, List.set_cons_succ])
              (refine wpAnyH_take (i := 6) (v := ?_) rfl (by kernel_rfl) (by kernel_rfl) (by kernel_rfl) (fun _ _ _ h => h) (Or.inl ⟨by rfl, ?_⟩) hS4 ?_); rotate_left; (focus (intro w' hSw; (have el := hSw); go_simp; (try with_reducible rfl))); (try simp only [Act.put, List.getElem_toArray, List.getElem_cons_zero, List.getElem_cons_succ, List.setIfInBounds_toArray, List.set_cons_zero, List.set_cons_succ])
              refine wpAnyH_ready (rs := [10]) (by kernel_rfl) (by simp) ?_
              refine AllReadyH.cons rfl (fun K hK => ?_) AllReadyH.nil
              go_simp
              refine p3.mono ?_
              rintro e w7 ⟨qq, gh, K7, rfl, sb⟩
              have c7 := HC.out w7 sb.bel
              refine hK.out _ _ c7 (fun hS9 => ?_)
              clear hK K c7
              (try simp only [Act.put, List.getElem_toArray, List.getElem_cons_zero, List.getElem_cons_succ, List.setIfInBounds_toArray, List.set_cons_zero, List.set_cons_succ])
              (refine wpAnyH_take (i := 11) (v := ?_) rfl (by kernel_rfl) (by kernel_rfl) (by kernel_rfl) (fun _ _ _ h => h) (Or.inl ⟨by rfl, ?_⟩) hS9 ?_); rotate_left; (focus (intro w' hSw; (have el := hSw); go_simp; (try with_reducible rfl))); (try simp only [Act.put, List.getElem_toArray, List.getElem_cons_zero, List.getElem_cons_succ, List.setIfInBounds_toArray, List.set_cons_zero, List.set_cons_succ])
              (refine wpAnyH_take (i := 12) (v := ?_) rfl (by kernel_rfl) (by kernel_rfl) (by kernel_rfl) (fun _ _ _ h => h) (Or.inl ⟨by rfl, ?_⟩) hS9 ?_); rotate_left; (focus (intro w' hSw; (have el := hSw); go_simp; (try with_reducible rfl))); (try simp only [Act.put, List.getElem_toArray, List.getElem_cons_zero, List.getElem_cons_succ, List.setIfInBounds_toArray, List.set_cons_zero, List.set_cons_succ])
              (refine wpAnyH_take (i := 13) (v := ?_) rfl (by kernel_rfl) (by kernel_rfl) (by kernel_rfl) (fun _ _ _ h => h) (Or.inl ⟨by rfl, ?_⟩) hS9 ?_); rotate_left; (focus (intro w' hSw; (have el := hSw); go_simp; (try with_reducible rfl))); (try simp only [Act.put, List.getElem_toArray, List.getElem_cons_zero, List.getElem_cons_succ, List.setIfInBounds_toArray, List.set_cons_zero, List.set_cons_succ])
              (refine wpAnyH_take (i := 14) (v := ?_) rfl (by kernel_rfl) (by kernel_rfl) (by kernel_rfl) (fun _ _ _ h => h) (Or.inl ⟨by rfl, ?_⟩) hS9 ?_); rotate_left; (focus (intro w' hSw; (have el := hSw); go_simp; (try with_reducible rfl))); (try simp only [Act.put, List.getElem_toArray, List.getElem_cons_zero, List.getElem_cons_succ, List.setIfInBounds_toArray, List.set_cons_zero, List.set_cons_succ])
              (refine wpAnyH_take (i := 15) (v := ?_) rfl (by kernel_rfl) (by kernel_rfl) (by kernel_rfl) (fun _ _ _ h => h) (Or.inl ⟨by rfl, ?_⟩) hS9 ?_); rotate_left; (focus (intro w' hSw; (have el := hSw); go_simp; (try with_reducible rfl))); (try simp only [Act.put, List.getElem_toArray, List.getElem_cons_zero, List.getElem_cons_succ, List.setIfInBounds_toArray, List.set_cons_zero, List.set_cons_succ])
              refine wpAnyH_done (by kernel_rfl) ?_ _
              clear hS9 p1 p2 p3 m1 m2 m3 a1 a2 a3 d1 d2 d3 e1 e2 e3 cA cM c6 hS
              have h1 := sb.eq
              have h2 := sb.gs
              subst h1
              clear HH
              rcases h2 with h2 | h2
              all_goals subst h2
              · by_cases cm : j < m
                · have hp : ∃ b, p = some b := by
                    rcases R2 with h | ⟨b, e, _⟩
                    · omega
                    · exact ⟨b, e⟩
                  obtain ⟨b, rfl⟩ := hp
                  have hBc : w7.cell? (b.add j) = some (.bool (B j)) := by
                    rcases R2 with ⟨e, _⟩ | ⟨b', e, _, _, h⟩
                    · cases e
                    · injection e with e
                      subst e
                      have hc := h j cm
                      exact (sb.bel.cell (World.block_lt_of_cell? w _ hc)).trans hc
                  have j2 : (j : Int) < m := by omega
                  by_cases hBj : B j = true
                  · rw [hBj] at hBc
                    obtain ⟨vx', W8, vy', W9, r1, r2, Ha2, Hb2, ia2, ib2, K2, sm2⟩ := sb.keep (by omega) 28
                    obtain ⟨ox2, cx2, hvx2⟩ := slice_of (owns_base sm2.x.row (b' := 0) (fun _ _ => Nat.zero_le _))
                    obtain ⟨oy2, cy2, hvy2⟩ := slice_of (owns_base sm2.y.row (b' := 0) (fun _ _ => Nat.zero_le _))
                    generalize (ia2.map hw).length = nx2 at hvx2
                    generalize (ib2.map hw).length = ny2 at hvy2
                    subst hvx2
                    subst hvy2
                    have SM2 := hid sm2
                    clear sb sm2
                    go_upto_region 20 with (first | (at_builtin; refine Lib.wpList_append_run _ rfl (.tmp 118) (.tmp 120) 28 28 rfl _ _ (by simp [Act.eval]) (by simp [Act.eval]) _ _ r1 ?_) | (at_builtin; refine Lib.wpList_append_run _ rfl (.tmp 122) (.tmp 124) 28 28 rfl _ _ (by simp [Act.eval]) (by simp [Act.eval]) _ _ r2 ?_))
                    have sm2 := SM2.out
                    clear SM2 r1 r2 hBc
                    obtain ⟨vz, Wz, rz, wz, bz⟩ := copy_run (W1 := W9) 28 (.slice oy2 ny2 cy2) (ib2.map hw) sm2.y.words (by have := sm2.nb; simp; omega)
                    have cc := (sm2.below' bz).collect vz wz
                    clear sm2 wz bz
                    go_upto_region 21 with (first | (at_builtin; refine Lib.wpList_append_run _ rfl (.tmp 127) (.tmp 128) 28 28 rfl _ _ (by simp [Act.eval]) (by simp [Act.eval]) _ _ rz ?_) | (go_at_call 9; (with_reducible refine cc.mono ?_); rintro e w10 ⟨rfl, H10, sm10⟩; (have SMZ := hid sm10); (have ca := sm10.ra); clear cc sm10))
                    clear rz
                    go_wp2_with (first | (go_at_call 10; (with_reducible refine ca.mono ?_); rintro e w11 ⟨rfl, b11⟩; (have cb := (SMZ.out.below' b11).rb); clear ca) | (go_at_call 10; (with_reducible refine cb.mono ?_); rintro e w12 ⟨rfl, b12⟩; clear cb))
                    go_roundw
                    case rel => exact ⟨j + 1, _, _, _, _, _, by omega, by go_num, (SMZ.out.below' b11).below' b12⟩
                    case measure => simp [intOf]; omega
                  · rw [show B j = false by simpa using hBj] at hBc
                    have SB := hid sb
                    clear sb
                    go_upto_region 20 with fail
                    obtain ⟨Ha1, Hb1, sm1, _⟩ := SB.out.stay
                    clear SB hBc
                    obtain ⟨vz, Wz, rz, wz, bz⟩ := copy_run (W1 := w7) 28 (.slice oy ny cy) (ib.map hw) sm1.y.words (by have := sm1.nb; simp; omega)
                    have cc := (sm1.below' bz).collect vz wz
                    clear sm1 wz bz
                    go_upto_region 21 with (first | (at_builtin; refine Lib.wpList_append_run _ rfl (.tmp 127) (.tmp 128) 28 28 rfl _ _ (by simp [Act.eval]) (by simp [Act.eval]) _ _ rz ?_) | (go_at_call 9; (with_reducible refine cc.mono ?_); rintro e w10 ⟨rfl, H10, sm10⟩; (have SMZ := hid sm10); (have ca := sm10.ra); clear cc sm10))
                    clear rz
                    go_wp2_with (first | (go_at_call 10; (with_reducible refine ca.mono ?_); rintro e w11 ⟨rfl, b11⟩; (have cb := (SMZ.out.below' b11).rb); clear ca) | (go_at_call 10; (with_reducible refine cb.mono ?_); rintro e w12 ⟨rfl, b12⟩; clear cb))
                    go_roundw
                    case rel => exact ⟨j + 1, _, _, _, _, _, by omega, by go_num, (SMZ.out.below' b11).below' b12⟩
                    case measure => simp [intOf]; omega
                · have j2 : ¬ (j : Int) < m := by omega
                  have SB := hid sb
                  clear sb
                  go_upto_region 20 with fail
                  obtain ⟨Ha1, Hb1, sm1, _⟩ := SB.out.stay
                  clear SB
                  obtain ⟨vz, Wz, rz, wz, bz⟩ := copy_run (W1 := w7) 28 (.slice oy ny cy) (ib.map hw) sm1.y.words (by have := sm1.nb; simp; omega)
                  have cc := (sm1.below' bz).collect vz wz
                  clear sm1 wz bz
                  go_upto_region 21 with (first | (at_builtin; refine Lib.wpList_append_run _ rfl (.tmp 127) (.tmp 128) 28 28 rfl _ _ (by simp [Act.eval]) (by simp [Act.eval]) _ _ rz ?_) | (go_at_call 9; (with_reducible refine cc.mono ?_); rintro e w10 ⟨rfl, H10, sm10⟩; (have SMZ := hid sm10); (have ca := sm10.ra); clear cc sm10))
                  clear rz
                  go_wp2_with (first | (go_at_call 10; (with_reducible refine ca.mono ?_); rintro e w11 ⟨rfl, b11⟩; (have cb := (SMZ.out.below' b11).rb); clear ca) | (go_at_call 10; (with_reducible refine cb.mono ?_); rintro e w12 ⟨rfl, b12⟩; clear cb))
                  go_roundw
                  case rel => exact ⟨j + 1, _, _, _, _, _, by omega, by go_num, (SMZ.out.below' b11).below' b12⟩
                  case measure => simp [intOf]; omega
              · have SB := hid sb
                clear sb
                go_upto_region 20 with fail
                obtain ⟨Ha1, Hb1, sm1, _⟩ := SB.out.stay
                clear SB
                obtain ⟨vz, Wz, rz, wz, bz⟩ := copy_run (W1 := w7) 28 (.slice oy ny cy) (ib.map hw) sm1.y.words (by have := sm1.nb; simp; omega)
                have cc := (sm1.below' bz).collect vz wz
                clear sm1 wz bz
                go_upto_region 21 with (first | (at_builtin; refine Lib.wpList_append_run _ rfl (.tmp 127) (.tmp 128) 28 28 rfl _ _ (by simp [Act.eval]) (by simp [Act.eval]) _ _ rz ?_) | (go_at_call 9; (with_reducible refine cc.mono ?_); rintro e w10 ⟨rfl, H10, sm10⟩; (have SMZ := hid sm10); (have ca := sm10.ra); clear cc sm10))
                clear rz
                go_wp2_with (first | (go_at_call 10; (with_reducible refine ca.mono ?_); rintro e w11 ⟨rfl, b11⟩; (have cb := (SMZ.out.below' b11).rb); clear ca) | (go_at_call 10; (with_reducible refine cb.mono ?_); rintro e w12 ⟨rfl, b12⟩; clear cb))
                go_roundw
                case rel => exact ⟨j + 1, _, _, _, _, _, by omega, by go_num, (SMZ.out.below' b11).below' b12⟩
                case measure => simp [intOf]; omega
    · have e : j = l := by omega
      subst e
      have HB := hid sm.q.bel
      clear sm
      go_wp2_with (go_at_call 11; (with_reducible refine (awake6_c _).mono ?_); rintro e w5 ⟨rfl, b5⟩)
      go_ret
      exact ⟨rfl, HB.out.trans (b5.mono HB.out.size)⟩
end Hq
theorem heapSame_walk (n0 : Int) (x0 : (Lit.int .i64 n0).wf = true) (o : Option Addr) (l c : Nat) (N : Nat → Int) (p : Option Addr) (m d : Nat) (B : Nat → Bool) (w : World) (R1 : IntsAt w o l c N) (R2 : BoolsAt w p m d B) : Calls Try.prog 3 #[.int .i64 n0, .slice o l c, .slice p m d] w fun e w' => e = .returned (.bool true) ∧ Below w.heap.size w w' := by
  by_cases h : n0 < 0 ∨ 500 < n0 ∨ 80 < l
  · exact Hq.long n0 o p l c m d h w
  · obtain ⟨u, rfl⟩ : ∃ u : Nat, n0 = u := ⟨n0.toNat, by omega⟩
    exact Hq.main u (by omega) o l c N p m d B w R1 R2 (by omega)
end Go.Proofs.Ytaebnnkhjlidiab.W
