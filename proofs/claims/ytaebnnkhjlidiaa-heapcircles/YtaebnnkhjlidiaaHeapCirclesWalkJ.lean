import Derived.Test.YtaebnnkhjlidiaaHkFJ
import Derived.Test.YtaebnnkhjlidiaaBase8
import Derived.Test.YtaebnnkhjlidiaaSiOpenJ
/- HeapCircles: the walk. -/
namespace Go.Proofs.Ytaebnnkhjlidiaa.W
open Go.ChangeShapes Go.WideShapes Go.RowKit Go.Shelf
set_option linter.unusedVariables false
set_option linter.unusedSimpArgs false
namespace Hk
theorem boolT' : Try.prog.underlying 4 = some .bool := by kernel_rfl
theorem load_bool' (w : World) (b : Nat) (v : Value) (h : w.cell? ⟨b, 0, none⟩ = some v) : (loadVar 4 ⟨b, 0, none⟩).run Try.prog w = .ok v w := by
  simp [loadVar, isAgg, run_underlying boolT', h, go_sem]
theorem bool_ret' {fn : Func} {p : Tmp} (h : fn.results = #[.cell p 4]) (tmps : Array Value) (w : World) (b : Nat) (v : Value) (fr : Nat × Nat) (t2 : TypeId) (hp : tmps.getD p undef = .pointer (some ⟨b, 0, none⟩)) (hg : w.heap[b]? = some (.cells #[v] t2 fr)) : (results fn tmps).run Try.prog w = .ok v w := by
  have hl := load_bool' w b v (cell_of_row w b 0 _ _ _ hg)
  have hp' : tmps[p]?.getD undef = .pointer (some ⟨b, 0, none⟩) := by simpa using hp
  simp [results, h, hp', asAddr, hl]
set_option maxRecDepth 100000 in
theorem hk_bad (n fr : Int) (h : n < 1 ∨ 60 < n) (w : World) : Calls Try.prog 5 #[.int .i64 n, .int .i64 fr] w fun e w' => e = .returned (.bool true) ∧ Below w.heap.size w w' := by
  have hB := (Below.refl _ w).alloc (Nat.le_refl _) (.cells #[.bool true] 4)
  have hN := World.alloc_heap_new w (.cells #[.bool true] 4)
  refine (callsIn_wide (n := 9)).1 ?_
  refine callsIn_of_wp_marks Try.func5 rfl trivial ?_ rfl
  refine wpIn_wide.2 ?_
  simp only [Try.ntmps5, List.size_toArray, List.length_cons, List.length_nil, Nat.reduceAdd, Nat.reduceSub, Array.replicate_succ, Array.replicate_zero, List.push_toArray, List.append_toArray, List.nil_append, List.cons_append]
  by_cases c1 : n < 1
  · clear h
    go_wp2
    exact ⟨_, bool_ret' rfl _ _ w.heap.size _ (0, 0) _ rfl hN, rfl, hB⟩
  · have c2 : n > 60 := by omega
    clear h
    go_wp2
    exact ⟨_, bool_ret' rfl _ _ w.heap.size _ (0, 0) _ rfl hN, rfl, hB⟩
set_option maxRecDepth 100000 in
set_option maxHeartbeats 4000000 in
theorem hk_main (n : Nat) (h1 : 1 ≤ n) (h2 : n ≤ 60) (fr : Int) (w : World) : Calls Try.prog 5 #[.int .i64 n, .int .i64 fr] w fun e w' => e = .returned (.bool true) ∧ Below w.heap.size w w' := by
  have a1 : ¬ (n : Int) < 1 := by omega
  have a2 : ¬ (n : Int) > 60 := by omega
  have a3 : IntKind.i64.wrap (3 * (n : Int)) = 3 * (n : Int) := by rw [IntKind.wrap_i64]; omega
  have a4 : IntKind.i64.wrap (3 * (n : Int) + 5) = 3 * (n : Int) + 5 := by rw [IntKind.wrap_i64]; omega
  have hB1 := (Below.refl w.heap.size w).alloc (Nat.le_refl _) (.cells #[.bool false] 4)
  have z1 : (w.alloc (.cells #[.bool false] 4)).heap.size = w.heap.size + 1 := World.size_alloc ..
  have f1 := World.alloc_heap_new w (.cells #[.bool false] 4)
  have cn := hf_new (W0 := w) hB1 (3 * n + 5) (by omega)
  have e5 : (((3 * n + 5 : Nat)) : Int) = 3 * (n : Int) + 5 := by omega
  rw [e5] at cn
  refine (callsIn_wide (n := 9)).1 ?_
  refine callsIn_of_wp_marks Try.func5 rfl trivial ?_ rfl
  refine wpIn_wide.2 ?_
  simp only [Try.ntmps5, List.size_toArray, List.length_cons, List.length_nil, Nat.reduceAdd, Nat.reduceSub, Array.replicate_succ, Array.replicate_zero, List.push_toArray, List.append_toArray, List.nil_append, List.cons_append]
  have HB1 := hid hB1
  have F1 := hid f1
  have Z1 := hid z1
  clear hB1 f1 e5 z1
  go_upto_region 4 with (go_at_call 11; (with_reducible refine cn.mono ?_); rintro e w2 ⟨hb, rfl, q2, b2⟩; clear cn)
  have ck0 : Ck w w2 hb (3 * n + 5) (cir 0 0) 0 (fun k => k < (w.alloc (.cells #[.bool false] 4)).heap.size) (.slice none 0 0) := ⟨q2, mine_nil w w2 _, (b2.block _ (by rw [Z1.out]; omega)).trans F1.out, (by rw [Z1.out]; omega), fun k hk => (by cases hk), fun k hk => (by cases hk)⟩
  have CK0 := hid ck0
  clear ck0 q2 b2 HB1 F1 Z1
  generalize (fun k => k < (w.alloc (.cells #[.bool false] 4)).heap.size) = K0 at *
  go_wp2
  go_loopw [7, 8, 9, 10] (fun vr ii _ _ wr => ∃ (j : Nat) (K : Nat → Prop), j ≤ n ∧ ii = .int .i64 j ∧ Ck w wr hb (3 * n + 5) (cir j 0) j K vr) (fun _ ii _ _ _ => n - (intOf ii).toNat)
  case atStart => exact ⟨0, K0, by omega, rfl, CK0.out⟩
  case round =>
    obtain ⟨j, K, hj, rfl, ck⟩ := hrel
    clear CK0
    by_cases hlt : j < n
    · have hl : ((List.range j).map hw).length = j := by simp
      obtain ⟨ox, cx, hvx⟩ := slice_of (owns_base ck.r.row (b' := 0) (fun _ _ => Nat.zero_le _))
      rw [hl] at hvx
      subst hvx
      have j0 : (j : Int) < n := by omega
      have wj : IntKind.i64.wrap ((j : Int) + 1) = (j : Int) + 1 := by rw [IntKind.wrap_i64]; omega
      have bA : Below wr.heap.size wr (wr.alloc (.cells #[.int .u64 9221120237041090560, .int .u64 9221120237041090560] 24)) := (Below.refl _ _).alloc (Nat.le_refl _) _
      have zA : (wr.alloc (.cells #[.int .u64 9221120237041090560, .int .u64 9221120237041090560] 24)).heap.size = wr.heap.size + 1 := World.size_alloc ..
      have vA : WordsAt (wr.alloc (.cells #[.int .u64 9221120237041090560, .int .u64 9221120237041090560] 24)) (.slice (some ⟨wr.heap.size, 0, none⟩) 2 2) [9221120237041090560, 9221120237041090560] := words_new wr [9221120237041090560, 9221120237041090560] [.int .u64 9221120237041090560, .int .u64 9221120237041090560] (by decide) (by decide) rfl _
      obtain ⟨KA, ckA, kA⟩ : ∃ KA, Ck w (wr.alloc (.cells #[.int .u64 9221120237041090560, .int .u64 9221120237041090560] 24)) hb (3 * n + 5) (cir j 0) j KA (.slice ox j cx) ∧ KA wr.heap.size := ⟨_, ck.below bA, .inr ⟨Nat.le_refl _, by rw [zA]; omega⟩⟩
      obtain ⟨vc, Wc, hrun, hwc, bc⟩ := copy_run (W1 := (wr.alloc (.cells #[.int .u64 9221120237041090560, .int .u64 9221120237041090560] 24))) 23 (.slice ox j cx) ((List.range j).map hw) ckA.r.words (by rw [hl]; omega)
      have cp := (ckA.below' bc).put (by omega) (by omega) wr.heap.size (words_below vA bc) kA vc hwc
      have hrun' : ∀ b, b = wr.heap.size + 1 → (Builtin.append_ #[23, 23] 23 #[.slice (some ⟨b, 0, none⟩) 0 0, .slice ox j cx]).run Try.prog ((wr.alloc (.cells #[.int .u64 9221120237041090560, .int .u64 9221120237041090560] 24)).alloc (.cells #[] 24)) = .ok vc Wc := fun b e => by rw [e, ← zA]; exact hrun
      have hrun2 := hrun' _ rfl
      clear hrun hrun' vA bA hwc bc ckA ck kA zA
      go_upto_region 11 with (first | (at_builtin; refine Lib.wpList_append_run _ rfl (.tmp 46) (.tmp 47) 23 23 rfl _ _ (by simp [Act.eval]) (by simp [Act.eval]) _ _ hrun2 ?_) | (go_at_call 12; (with_reducible refine cp.mono ?_); rintro e w3 ⟨rfl, ck3⟩; clear cp))
      obtain ⟨v4, w4, r4, K4, ck4⟩ := ck3.keep (by omega) 23
      obtain ⟨o4, c4, hv4⟩ := slice_of (owns_base ck4.r.row (b' := 0) (fun _ _ => Nat.zero_le _))
      have hl4 : ((List.range (j + 1)).map hw).length = j + 1 := by simp
      rw [hl4] at hv4
      subst hv4
      have CK4 := hid ck4
      clear ck3 ck4 hrun2 hl hl4
      generalize hw j = hj9 at *
      go_wp2_with (at_builtin; refine Lib.wpList_append_run _ rfl (.tmp 54) (.tmp 56) 23 23 rfl _ _ (by simp [Act.eval]) (by simp [Act.eval]) _ _ r4 ?_)
      go_roundw
      case rel => exact ⟨j + 1, K4, by omega, by go_num, CK4.out⟩
      case measure => simp [intOf]; omega
    · have e : j = n := by omega
      subst e
      obtain ⟨g, cap, hv, hcells⟩ := ck.at (by omega)
      subst hv
      have CK := hid ck
      have HC := hid hcells
      clear ck hcells hlt hj
      go_wp2
      go_loopw [11] (fun ii wr => ∃ i : Nat, i ≤ j ∧ ii = .int .i64 i ∧ Ck w wr hb (3 * j + 5) (cir j i) j K (.slice (some ⟨g, 0, none⟩) j cap)) (fun ii _ => j - (intOf ii).toNat)
      case atStart => exact ⟨0, by omega, rfl, CK.out⟩
      case round => 
        obtain ⟨i, hi, rfl, ck⟩ := hrel
        clear CK HC
        by_cases hlt : i < j
        · have hcells := ck.cells
          have i0 : (i : Int) < j := by omega
          have i00 : (0 : Int) ≤ i := Int.natCast_nonneg _
          have wi : IntKind.i64.wrap ((i : Int) + 1) = (i : Int) + 1 := by rw [IntKind.wrap_i64]; omega
          obtain ⟨x, hx⟩ : ∃ x : Nat, (i + 1) % j = x := ⟨_, rfl⟩
          have hxj : x < j := by rw [← hx]; exact Nat.mod_lt _ (by omega)
          have tm : ((i : Int) + 1).tmod (j : Int) = (x : Int) := by
            rw [Int.tmod_eq_emod_of_nonneg (by omega), ← hx, Int.natCast_emod]; rfl
          have jz : ¬ (j : Int) = 0 := by omega
          have jz3 : ¬ j = 0 := by omega
          have jz2 : ((j : Int) == 0) = false := by simpa using jz
          have x0 : (x : Int) < j := by omega
          have x00 : (0 : Int) ≤ x := Int.natCast_nonneg _
          have jn := hlt
          have jm := hxj
          have c0 := ck.drew.set0 hlt (by omega)
          rw [hx] at c0
          have CS1 := fun (w' : World) (s : Ck w w' hb (3 * j + 5) ((cir j i).set i (some (.row (([9221120237041090560, 9221120237041090560] : List Nat).set 0 (hw ((i + 1) % j)))))) j K (.slice (some ⟨g, 0, none⟩) j cap)) => s.set1 hlt (by omega)
          rw [hx] at CS1
          have C0 := hid c0
          have CS := hid CS1
          have HX := hid hx
          clear ck c0 CS1 hx
          go_upto_region 17 with fail
          refine wp_region_noPanic ?_
          refine wp_region_held_drew (S := fun w' => ∀ y, y < j → w'.cell? ⟨g, y, none⟩ = some (.int .u64 (hw y : Nat))) (by kernel_rfl) hcells ?_
          intro hS
          (refine wpAnyH_take (i := 0) (v := ?_) rfl (by kernel_rfl) (by kernel_rfl) (by kernel_rfl) (fun _ _ _ h => h) (Or.inl ⟨by rfl, ?_⟩) hS ?_); rotate_left; (focus (intro w' hSw; (have el := hSw _ jn); (have el2 := hSw _ jm); go_simp; (try with_reducible rfl))); (try simp only [Act.put, List.getElem_toArray, List.getElem_cons_zero, List.getElem_cons_succ, List.setIfInBounds_toArray, List.set_cons_zero, List.set_cons_succ])
          (refine wpAnyH_take (i := 1) (v := ?_) rfl (by kernel_rfl) (by kernel_rfl) (by kernel_rfl) (fun _ _ _ h => h) (Or.inl ⟨by rfl, ?_⟩) hS ?_); rotate_left; (focus (intro w' hSw; (have el := hSw _ jn); (have el2 := hSw _ jm); go_simp; (try with_reducible rfl))); (try simp only [Act.put, List.getElem_toArray, List.getElem_cons_zero, List.getElem_cons_succ, List.setIfInBounds_toArray, List.set_cons_zero, List.set_cons_succ])
          (refine wpAnyH_take (i := 2) (v := ?_) rfl (by kernel_rfl) (by kernel_rfl) (by kernel_rfl) (fun _ _ _ h => h) (Or.inl ⟨by rfl, ?_⟩) hS ?_); rotate_left; (focus (intro w' hSw; (have el := hSw _ jn); (have el2 := hSw _ jm); go_simp; (try with_reducible rfl))); (try simp only [Act.put, List.getElem_toArray, List.getElem_cons_zero, List.getElem_cons_succ, List.setIfInBounds_toArray, List.set_cons_zero, List.set_cons_succ])
          (refine wpAnyH_take (i := 3) (v := ?_) rfl (by kernel_rfl) (by kernel_rfl) (by kernel_rfl) (fun _ _ _ h => h) (Or.inl ⟨by rfl, ?_⟩) hS ?_); rotate_left; (focus (intro w' hSw; (have el := hSw _ jn); (have el2 := hSw _ jm); go_simp; (try with_reducible rfl))); (try simp only [Act.put, List.getElem_toArray, List.getElem_cons_zero, List.getElem_cons_succ, List.setIfInBounds_toArray, List.set_cons_zero, List.set_cons_succ])
          (refine wpAnyH_take (i := 4) (v := ?_) rfl (by kernel_rfl) (by kernel_rfl) (by kernel_rfl) (fun _ _ _ h => h) (Or.inl ⟨by rfl, ?_⟩) hS ?_); rotate_left; (focus (intro w' hSw; (have el := hSw _ jn); (have el2 := hSw _ jm); go_simp; (try with_reducible rfl))); (try simp only [Act.put, List.getElem_toArray, List.getElem_cons_zero, List.getElem_cons_succ, List.setIfInBounds_toArray, List.set_cons_zero, List.set_cons_succ])
          (refine wpAnyH_take (i := 5) (v := ?_) rfl (by kernel_rfl) (by kernel_rfl) (by kernel_rfl) (fun _ _ _ h => h) (Or.inl ⟨by rfl, ?_⟩) hS ?_); rotate_left; (focus (intro w' hSw; (have el := hSw _ jn); (have el2 := hSw _ jm); go_simp; (try with_reducible rfl))); (try simp only [Act.put, List.getElem_toArray, List.getElem_cons_zero, List.getElem_cons_succ, List.setIfInBounds_toArray, List.set_cons_zero, List.set_cons_succ])
          (refine wpAnyH_take (i := 6) (v := ?_) rfl (by kernel_rfl) (by kernel_rfl) (by kernel_rfl) (fun _ _ _ h => h) (Or.inl ⟨by rfl, ?_⟩) hS ?_); rotate_left; (focus (intro w' hSw; (have el := hSw _ jn); (have el2 := hSw _ jm); go_simp; (try with_reducible rfl))); (try simp only [Act.put, List.getElem_toArray, List.getElem_cons_zero, List.getElem_cons_succ, List.setIfInBounds_toArray, List.set_cons_zero, List.set_cons_succ])
          (refine wpAnyH_take (i := 7) (v := ?_) rfl (by kernel_rfl) (by kernel_rfl) (by kernel_rfl) (fun _ _ _ h => h) (Or.inl ⟨by rfl, ?_⟩) hS ?_); rotate_left; (focus (intro w' hSw; (have el := hSw _ jn); (have el2 := hSw _ jm); go_simp; (try with_reducible rfl))); (try simp only [Act.put, List.getElem_toArray, List.getElem_cons_zero, List.getElem_cons_succ, List.setIfInBounds_toArray, List.set_cons_zero, List.set_cons_succ])
          (refine wpAnyH_take (i := 8) (v := ?_) rfl (by kernel_rfl) (by kernel_rfl) (by kernel_rfl) (fun _ _ _ h => h) (Or.inl ⟨by rfl, ?_⟩) hS ?_); rotate_left; (focus (intro w' hSw; (have el := hSw _ jn); (have el2 := hSw _ jm); go_simp; (try with_reducible rfl))); (try simp only [Act.put, List.getElem_toArray, List.getElem_cons_zero, List.getElem_cons_succ, List.setIfInBounds_toArray, List.set_cons_zero, List.set_cons_succ])
          (refine wpAnyH_take (i := 9) (v := .int .i64 (x : Int)) rfl (by kernel_rfl) (by kernel_rfl) (by kernel_rfl) (fun _ _ _ h => h) (Or.inl ⟨by rfl, ?_⟩) hS ?_); (focus (intro w' hSw; go_simp)); (try simp only [Act.put, List.getElem_toArray, List.getElem_cons_zero, List.getElem_cons_succ, List.setIfInBounds_toArray, List.set_cons_zero, List.set_cons_succ])
          (refine wpAnyH_take (i := 10) (v := ?_) rfl (by kernel_rfl) (by kernel_rfl) (by kernel_rfl) (fun _ _ _ h => h) (Or.inl ⟨by rfl, ?_⟩) hS ?_); rotate_left; (focus (intro w' hSw; (have el := hSw _ jn); (have el2 := hSw _ jm); go_simp; (try with_reducible rfl))); (try simp only [Act.put, List.getElem_toArray, List.getElem_cons_zero, List.getElem_cons_succ, List.setIfInBounds_toArray, List.set_cons_zero, List.set_cons_succ])
          (refine wpAnyH_take (i := 11) (v := ?_) rfl (by kernel_rfl) (by kernel_rfl) (by kernel_rfl) (fun _ _ _ h => h) (Or.inl ⟨by rfl, ?_⟩) hS ?_); rotate_left; (focus (intro w' hSw; (have el := hSw _ jn); (have el2 := hSw _ jm); go_simp; (try with_reducible rfl))); (try simp only [Act.put, List.getElem_toArray, List.getElem_cons_zero, List.getElem_cons_succ, List.setIfInBounds_toArray, List.set_cons_zero, List.set_cons_succ])
          refine wpAnyH_ready (rs := [12]) (by kernel_rfl) (by simp) ?_
          refine AllReadyH.cons rfl (fun K hK => ?_) AllReadyH.nil
          go_simp
          refine C0.out.mono ?_
          rintro e w3 ⟨rfl, ck3⟩
          have hS3 := ck3.cells
          refine hK.out _ _ hS3 (fun hS => ?_)
          clear hK K C0
          (try simp only [Act.put, List.getElem_toArray, List.getElem_cons_zero, List.getElem_cons_succ, List.setIfInBounds_toArray, List.set_cons_zero, List.set_cons_succ])
          (refine wpAnyH_take (i := 13) (v := ?_) rfl (by kernel_rfl) (by kernel_rfl) (by kernel_rfl) (fun _ _ _ h => h) (Or.inl ⟨by rfl, ?_⟩) hS ?_); rotate_left; (focus (intro w' hSw; (have el := hSw _ jn); (have el2 := hSw _ jm); go_simp; (try with_reducible rfl))); (try simp only [Act.put, List.getElem_toArray, List.getElem_cons_zero, List.getElem_cons_succ, List.setIfInBounds_toArray, List.set_cons_zero, List.set_cons_succ])
          (refine wpAnyH_take (i := 14) (v := ?_) rfl (by kernel_rfl) (by kernel_rfl) (by kernel_rfl) (fun _ _ _ h => h) (Or.inl ⟨by rfl, ?_⟩) hS ?_); rotate_left; (focus (intro w' hSw; (have el := hSw _ jn); (have el2 := hSw _ jm); go_simp; (try with_reducible rfl))); (try simp only [Act.put, List.getElem_toArray, List.getElem_cons_zero, List.getElem_cons_succ, List.setIfInBounds_toArray, List.set_cons_zero, List.set_cons_succ])
          (refine wpAnyH_take (i := 15) (v := ?_) rfl (by kernel_rfl) (by kernel_rfl) (by kernel_rfl) (fun _ _ _ h => h) (Or.inl ⟨by kernel_rfl, ?_⟩) hS ?_); rotate_left; (focus (intro w' hSw; (have el := hSw _ jn); (have el2 := hSw _ jm); go_simp; (try with_reducible rfl))); (try simp only [Act.put, List.getElem_toArray, List.getElem_cons_zero, List.getElem_cons_succ, List.setIfInBounds_toArray, List.set_cons_zero, List.set_cons_succ])
          (refine wpAnyH_take (i := 16) (v := ?_) rfl (by kernel_rfl) (by kernel_rfl) (by kernel_rfl) (fun _ _ _ h => h) (Or.inl ⟨by kernel_rfl, ?_⟩) hS ?_); rotate_left; (focus (intro w' hSw; (have el := hSw _ jn); (have el2 := hSw _ jm); go_simp; (try with_reducible rfl))); (try simp only [Act.put, List.getElem_toArray, List.getElem_cons_zero, List.getElem_cons_succ, List.setIfInBounds_toArray, List.set_cons_zero, List.set_cons_succ])
          (refine wpAnyH_take (i := 17) (v := ?_) rfl (by kernel_rfl) (by kernel_rfl) (by kernel_rfl) (fun _ _ _ h => h) (Or.inl ⟨by kernel_rfl, ?_⟩) hS ?_); rotate_left; (focus (intro w' hSw; (have el := hSw _ jn); (have el2 := hSw _ jm); go_simp; (try with_reducible rfl))); (try simp only [Act.put, List.getElem_toArray, List.getElem_cons_zero, List.getElem_cons_succ, List.setIfInBounds_toArray, List.set_cons_zero, List.set_cons_succ])
          (refine wpAnyH_take (i := 18) (v := ?_) rfl (by kernel_rfl) (by kernel_rfl) (by kernel_rfl) (fun _ _ _ h => h) (Or.inl ⟨by kernel_rfl, ?_⟩) hS ?_); rotate_left; (focus (intro w' hSw; (have el := hSw _ jn); (have el2 := hSw _ jm); go_simp; (try with_reducible rfl))); (try simp only [Act.put, List.getElem_toArray, List.getElem_cons_zero, List.getElem_cons_succ, List.setIfInBounds_toArray, List.set_cons_zero, List.set_cons_succ])
          (refine wpAnyH_take (i := 19) (v := ?_) rfl (by kernel_rfl) (by kernel_rfl) (by kernel_rfl) (fun _ _ _ h => h) (Or.inl ⟨by kernel_rfl, ?_⟩) hS ?_); rotate_left; (focus (intro w' hSw; (have el := hSw _ jn); (have el2 := hSw _ jm); go_simp; (try with_reducible rfl))); (try simp only [Act.put, List.getElem_toArray, List.getElem_cons_zero, List.getElem_cons_succ, List.setIfInBounds_toArray, List.set_cons_zero, List.set_cons_succ])
          (refine wpAnyH_take (i := 20) (v := ?_) rfl (by kernel_rfl) (by kernel_rfl) (by kernel_rfl) (fun _ _ _ h => h) (Or.inl ⟨by kernel_rfl, ?_⟩) hS ?_); rotate_left; (focus (intro w' hSw; (have el := hSw _ jn); (have el2 := hSw _ jm); go_simp; (try with_reducible rfl))); (try simp only [Act.put, List.getElem_toArray, List.getElem_cons_zero, List.getElem_cons_succ, List.setIfInBounds_toArray, List.set_cons_zero, List.set_cons_succ])
          (refine wpAnyH_take (i := 21) (v := ?_) rfl (by kernel_rfl) (by kernel_rfl) (by kernel_rfl) (fun _ _ _ h => h) (Or.inl ⟨by kernel_rfl, ?_⟩) hS ?_); rotate_left; (focus (intro w' hSw; (have el := hSw _ jn); (have el2 := hSw _ jm); go_simp; (try with_reducible rfl))); (try simp only [Act.put, List.getElem_toArray, List.getElem_cons_zero, List.getElem_cons_succ, List.setIfInBounds_toArray, List.set_cons_zero, List.set_cons_succ])
          (refine wpAnyH_take (i := 22) (v := ?_) rfl (by kernel_rfl) (by kernel_rfl) (by kernel_rfl) (fun _ _ _ h => h) (Or.inl ⟨by kernel_rfl, ?_⟩) hS ?_); rotate_left; (focus (intro w' hSw; (have el := hSw _ jn); (have el2 := hSw _ jm); go_simp; (try with_reducible rfl))); (try simp only [Act.put, List.getElem_toArray, List.getElem_cons_zero, List.getElem_cons_succ, List.setIfInBounds_toArray, List.set_cons_zero, List.set_cons_succ])
          (refine wpAnyH_take (i := 23) (v := ?_) rfl (by kernel_rfl) (by kernel_rfl) (by kernel_rfl) (fun _ _ _ h => h) (Or.inl ⟨by kernel_rfl, ?_⟩) hS ?_); rotate_left; (focus (intro w' hSw; (have el := hSw _ jn); (have el2 := hSw _ jm); go_simp; (try with_reducible rfl))); (try simp only [Act.put, List.getElem_toArray, List.getElem_cons_zero, List.getElem_cons_succ, List.setIfInBounds_toArray, List.set_cons_zero, List.set_cons_succ])
          refine wpAnyH_ready (rs := [24]) (by kernel_rfl) (by simp) ?_
          refine AllReadyH.cons rfl (fun K hK => ?_) AllReadyH.nil
          go_simp
          refine (CS.out _ ck3).mono ?_
          rintro e w4 ⟨rfl, ck4⟩
          have hS4 := ck4.cells
          clear hS
          refine hK.out _ _ hS4 (fun hS => ?_)
          clear hK K CS hS3
          (try simp only [Act.put, List.getElem_toArray, List.getElem_cons_zero, List.getElem_cons_succ, List.setIfInBounds_toArray, List.set_cons_zero, List.set_cons_succ])
          (refine wpAnyH_take (i := 25) (v := ?_) rfl (by kernel_rfl) (by kernel_rfl) (by kernel_rfl) (fun _ _ _ h => h) (Or.inl ⟨by kernel_rfl, ?_⟩) hS ?_); rotate_left; (focus (intro w' hSw; (have el := hSw _ jn); (have el2 := hSw _ jm); go_simp; (try with_reducible rfl))); (try simp only [Act.put, List.getElem_toArray, List.getElem_cons_zero, List.getElem_cons_succ, List.setIfInBounds_toArray, List.set_cons_zero, List.set_cons_succ])
          (refine wpAnyH_take (i := 26) (v := ?_) rfl (by kernel_rfl) (by kernel_rfl) (by kernel_rfl) (fun _ _ _ h => h) (Or.inl ⟨by rfl, ?_⟩) hS ?_); rotate_left; (focus (intro w' hSw; (have el := hSw _ jn); (have el2 := hSw _ jm); go_simp; (try with_reducible rfl))); (try simp only [Act.put, List.getElem_toArray, List.getElem_cons_zero, List.getElem_cons_succ, List.setIfInBounds_toArray, List.set_cons_zero, List.set_cons_succ])
          refine wpAnyH_done (by kernel_rfl) ?_ _
          have CK4 := hid ck4
          clear hS hS4 ck4 ck3 hcells
          simp only [NoPanic]
          go_wp2
          go_roundw
          case rel => exact ⟨i + 1, by omega, by go_num, CK4.out⟩
          case measure => simp [intOf]; omega
        · have e : i = j := by omega
          subst e
          have CK := hid ck
          have jz3 : ¬ i = 0 := by omega
          have jz2 : ((i : Int) == 0) = false := by simp; omega
          obtain ⟨k, hkL, hkT⟩ : ∃ k : Nat, k < i ∧ ((¬ fr.tmod i < 0 ∧ fr.tmod i = k) ∨ (fr.tmod i < 0 ∧ IntKind.i64.wrap (-fr.tmod i) = k)) := by
            have h1 := Int.natAbs_tmod fr (i : Int)
            have h2 : fr.natAbs % (i : Int).natAbs < i := Nat.mod_lt _ (by simp; omega)
            refine ⟨(fr.tmod i).natAbs, by omega, ?_⟩
            by_cases h : fr.tmod i < 0
            · exact .inr ⟨h, by rw [IntKind.wrap_i64]; omega⟩
            · exact .inl ⟨h, by omega⟩
          have HKT := hid hkT
          clear ck hkT hlt hi
          go_upto_if 94 with fail
          go_cut [12] from 92 to 96 (fun kk wc => kk = .int .i64 (k : Int) ∧ wc = wr)
          case first =>
            rcases HKT.out with ⟨t1, t2⟩ | ⟨t1, t2⟩
            all_goals go_wp2
            all_goals go_meet
            · exact ⟨rfl, rfl⟩
            · exact ⟨rfl, rfl⟩
          case rest =>
            obtain ⟨rfl, rfl⟩ := hcut
            have hk0 : (0 : Int) ≤ k := Int.natCast_nonneg _
            have hk1 : (k : Int) < i := by omega
            have hi60 : i ≤ 60 := h2
            have c1 := CK.out.cells k hkL
            have bA : Below wc.heap.size wc (wc.alloc (.cells #[.int .u64 (hw k : Nat)] 24)) := (Below.refl _ _).alloc (Nat.le_refl _) _
            have vA : WordsAt (wc.alloc (.cells #[.int .u64 (hw k : Nat)] 24)) (.slice (some ⟨wc.heap.size, 0, none⟩) 1 1) [hw k] := words_new wc [hw k] [.int .u64 (hw k : Nat)] (fun x hx => by simp at hx; rw [hx]; exact hw_lt k (by omega)) (by simp) rfl _
            have ck1 := CK.out.below' bA
            have cr := ck1.reach hkL (by omega) _ vA
            rw [show ((3 * i : Nat) : Int) = 3 * (i : Int) from by omega] at cr
            have CK1 := hid ck1
            clear bA vA ck1 CK
            go_upto_if 106 with (go_at_call 13; (with_reducible refine cr.mono ?_); rintro e w5 ⟨rfl, b5⟩; clear cr)
            have ck5 := CK1.out.below' b5
            clear CK1 b5 c1
            generalize wc.heap.size = x1 at *
            have c2 := ck5.cells k hkL
            have bA : Below w5.heap.size w5 (w5.alloc (.cells #[.int .u64 (hw k : Nat)] 24)) := (Below.refl _ _).alloc (Nat.le_refl _) _
            have vA : WordsAt (w5.alloc (.cells #[.int .u64 (hw k : Nat)] 24)) (.slice (some ⟨w5.heap.size, 0, none⟩) 1 1) [hw k] := words_new w5 [hw k] [.int .u64 (hw k : Nat)] (fun x hx => by simp at hx; rw [hx]; exact hw_lt k (by omega)) (by simp) rfl _
            have cc := (ck5.below' bA).collect hkL (by omega) _ vA
            clear bA vA ck5
            go_upto_region 25 with (go_at_call 16; (with_reducible refine cc.mono ?_); rintro e w6 ⟨rfl, ck6⟩; clear cc)
            clear c2
            generalize w5.heap.size = x2 at *
            have bB : Below w6.heap.size w6 (w6.alloc (.cells #[.int .i64 0] 3)) := (Below.refl _ _).alloc (Nat.le_refl _) _
            have fB := World.alloc_heap_new w6 (.cells #[.int .i64 0] 3)
            obtain ⟨K7, ck7, k7⟩ : ∃ K7, Ck w (w6.alloc (.cells #[.int .i64 0] 3)) hb (3 * i + 5) (cir i i) i K7 (.slice (some ⟨g, 0, none⟩) i cap) ∧ K7 w6.heap.size := ⟨_, ck6.below bB, .inr ⟨Nat.le_refl _, by rw [World.size_alloc]; omega⟩⟩
            have CK7 := hid ck7
            have FB := hid fB
            have wcb : w.heap.size < w6.heap.size := lt_get ck6.bx
            have WCB := hid wcb
            clear wcb
            clear bB ck6 ck7 fB
            go_upto_region 26 with fail
            generalize w6.alloc (.cells #[.int .i64 0] 3) = W7 at *
            generalize w6.heap.size = cb at *
            have cv := cells_c
            go_wp2_with (go_at_call 17; (with_reducible refine (cv _ _).mono ?_); rintro e w8 ⟨rfl, hw8⟩; (have hw' := hw8.symm); subst hw'; clear hw8)
            clear cv
            have bC : Below W7.heap.size W7 (W7.alloc (.cells #[.pointer (some ⟨hb, 0, none⟩)] 31)) := (Below.refl _ _).alloc (Nat.le_refl _) _
            have fC := cell_of_row _ _ 0 _ _ _ (World.alloc_heap_new W7 (.cells #[.pointer (some ⟨hb, 0, none⟩)] 31))
            have ck8 := CK7.out.below' bC
            have hcl := lt_get FB.out
            have f8 := (bC.block cb hcl).trans FB.out
            obtain ⟨vc, hG⟩ := ck8.cellsG (Bc := W7.heap.size) k7 fC (by omega)
            have CK8 := hid ck8
            have F8 := hid f8
            have HG := hid hG
            clear bC fC ck8 hcl f8 hG CK7 FB
            generalize W7.alloc (.cells #[.pointer (some ⟨hb, 0, none⟩)] 31) = W8 at *
            generalize W7.heap.size = Bc at *
            refine cells_law (hb := hb) vc (cir i i) rfl (fun j D W' => (∀ k, ¬ D k) ∧ Upd (fun k => k = cb) W8 W' ∧ W'.heap[cb]? = some (.cells #[.int .i64 (j : Int)] 3 (0, 0))) (fun _ _ => False) ?hL ?hI ?hIx ?hLx (fun _ => False) ⟨fun k e => e, Upd.refl _ _, F8.out⟩ ?skip ?body ?done ?stop
            case hL =>
              rintro j D W' ⟨d1, d2, d3⟩
              exact ⟨HG.out W' d2, fun k e => absurd e (d1 k)⟩
            case hI =>
              rintro j D Wa Wb ⟨d1, d2, d3⟩ hu
              have := lt_get F8.out
              have := d2.size
              exact ⟨d1, upd_more d2 hu (fun k e => by omega), (hu.block cb (by omega) (fun e => by omega)).trans d3⟩
            case hIx => intro c Wa Wb hF; exact hF.elim
            case hLx => intro c Wa hF; exact hF.elim
            case skip =>
              intro j D Wa hj hP
              rw [cir_len] at hj
              rw [cir_get i i j hj] at hP
              cases hP
            case body =>
              rintro L j hj D W' hP hLe ⟨d1, d2, d3⟩ hs hr
              rw [cir_len] at hj
              have hcl := lt_get F8.out
              have q0 := cell_of_row _ _ 0 _ _ _ d3
              have z0 := thaw_row d3 0
              have wj : IntKind.i64.wrap ((j : Int) + 1) = (j : Int) + 1 := by rw [IntKind.wrap_i64]; omega
              have D2 := hid d2
              have D3 := hid d3
              simp only [pairAct, List.setIfInBounds_toArray, List.set_cons_succ, List.set_cons_zero]
              clear d2 d3 hr HG CK8 F8
              simp at q0
              gi_wp2_with (simp only [Oper.semAt]; go_simp)
              have u1 : Upd (fun k => k = cb) W' (W'.setCell ⟨cb, 0, none⟩ (.int .i64 ((j : Int) + 1))) := (Upd.refl (fun k => k = cb) W').setCell (p := ⟨cb, 0, none⟩) (.inl rfl) _
              have f1 : (W'.setCell ⟨cb, 0, none⟩ (.int .i64 ((j : Int) + 1))).heap[cb]? = some (.cells #[.int .i64 ((j : Int) + 1)] 3 (0, 0)) := heap_set (b := cb) (c := [.int .i64 (j : Int)]) D3.out 0 (.int .i64 ((j : Int) + 1))
              refine ⟨⟨u1.block L (by omega) (by omega), u1.block _ (by omega) (by omega)⟩, fun k h1 h2 h3 => u1.block k h2 (by omega), D, ⟨d1, D2.out.trans' u1, ?_⟩, fun k e => .inl e⟩
              rw [show ((j + 1 : Nat) : Int) = (j : Int) + 1 from by omega]
              exact f1
            case done =>
              rintro D W' ⟨d1, d2, d3⟩ hD
              rw [cir_len] at d3
              have he1 : W8.heap.size < W'.heap.size := lt_get hD
              have ck9' := CK8.out.upd d2 (fun k e => by subst e; exact ⟨k7, WCB.out, fun e => own_ne (owns_base CK8.out.r.row (b' := 0) (fun _ _ => Nat.zero_le _)) F8.out (by decide) e.symm, by simp⟩)
              obtain ⟨K9, ck9, k9⟩ : ∃ K9, Ck w W' hb (3 * i + 5) (cir i i) i K9 (.slice (some ⟨g, 0, none⟩) i cap) [W8.heap.size] ∧ K9 cb := ⟨_, ck9'.mark (.inr ⟨Nat.le_refl _, he1⟩) CK8.out.q.bel.size hD, .inl k7⟩
              clear ck9' k7
              have q0 := cell_of_row _ _ 0 _ _ _ d3
              simp at q0
              have CK9 := hid ck9
              clear ck9 d2 hD CK8 F8 HG he1
              have f9 := hid d3
              have c9 := CK9.out.cells k hkL
              have bA : Below W'.heap.size W' (W'.alloc (.cells #[.int .u64 (hw k : Nat)] 24)) := (Below.refl _ _).alloc (Nat.le_refl _) _
              have vA : WordsAt (W'.alloc (.cells #[.int .u64 (hw k : Nat)] 24)) (.slice (some ⟨W'.heap.size, 0, none⟩) 1 1) [hw k] := words_new W' [hw k] [.int .u64 (hw k : Nat)] (fun x hx => by simp at hx; rw [hx]; exact hw_lt k (by omega)) (by simp) rfl _
              have cp := (CK9.out.below' bA).full hkL (by omega) ⟨#[48, 49, 50, 51, 52, 53, 54, 55, 56, 57, 48, 49, 50, 51, 52, 53, 54, 55, 56, 57, 48, 49, 50, 51, 52, 53, 54, 55, 56, 57, 48, 49, 50, 51, 52, 53, 54, 55, 56, 57]⟩ (by decide) _ vA
              clear bA vA CK9
              clear d3
              generalize W8.heap.size = e1 at *
              go_upto_if 135 with (go_at_call 12; (with_reducible refine cp.mono ?_); rintro e w10 ⟨rfl, ck10⟩; clear cp)
              clear c9 q0 f9
              have cg := ck10.gone (.slice none 0 0) (words_nil _ none 0)
              clear ck10
              go_upto_region 34 with (go_at_call 16; (with_reducible refine cg.mono ?_); rintro e w11 ⟨rfl, ck11⟩; clear cg)
              generalize W'.heap.size = x3 at *
              have cv := cells_c
              have CK11 := hid ck11
              clear ck11
              go_wp2_with (go_at_call 17; (with_reducible refine (cv _ _).mono ?_); rintro e w8 ⟨rfl, hw8⟩; (have hw' := hw8.symm); subst hw'; clear hw8)
              clear cv
              have bC : Below w11.heap.size w11 (w11.alloc (.cells #[.pointer (some ⟨hb, 0, none⟩)] 31)) := (Below.refl _ _).alloc (Nat.le_refl _) _
              have fC := cell_of_row _ _ 0 _ _ _ (World.alloc_heap_new w11 (.cells #[.pointer (some ⟨hb, 0, none⟩)] 31))
              have ck12 := CK11.out.below' bC
              obtain ⟨vc2, hG2⟩ := ck12.cellsG (Bc := w11.heap.size) ck12.bk fC (Nat.ne_of_gt (lt_get CK11.out.bx))
              have CK12 := hid ck12
              have HG2 := hid hG2
              clear bC fC ck12 hG2 CK11
              generalize w11.alloc (.cells #[.pointer (some ⟨hb, 0, none⟩)] 31) = W12 at *
              generalize w11.heap.size = Bc2 at *
              refine cells_law (hb := hb) vc2 (List.replicate i none) rfl (fun j D W' => (∀ k, ¬ D k) ∧ Upd (fun _ => False) W12 W') (fun _ _ => False) ?hL2 ?hI2 ?hIx2 ?hLx2 (fun _ => False) ⟨fun k e => e, Upd.refl _ _⟩ ?skip2 ?body2 ?done2 ?stop2
              case hL2 =>
                rintro j D W' ⟨d1, d2⟩
                exact ⟨HG2.out W' (d2.mono (fun k e => e.elim)), fun k e => absurd e (d1 k)⟩
              case hI2 =>
                rintro j D Wa Wb ⟨d1, d2⟩ hu
                exact ⟨d1, upd_more d2 hu (fun k e => by omega)⟩
              case hIx2 => intro c Wa Wb hF; exact hF.elim
              case hLx2 => intro c Wa hF; exact hF.elim
              case skip2 => intro j D Wa hj hP h; exact h
              case body2 =>
                intro L j hj D W' hP
                rw [List.length_replicate] at hj
                rw [List.getElem?_replicate, if_pos hj] at hP
                cases hP
              case done2 =>
                rintro D W13 ⟨d1, d2⟩ hD
                have ck13 := CK12.out.upd d2 (fun k e => e.elim)
                obtain ⟨K14, ck14⟩ : ∃ K14, Ck w W13 hb (3 * i + 5) (List.replicate i none) i K14 (.slice (some ⟨g, 0, none⟩) i cap) [W12.heap.size, e1] := ⟨_, ck13.mark (.inr ⟨Nat.le_refl _, lt_get hD⟩) CK12.out.q.bel.size hD⟩
                have ne12 : e1 ≠ W12.heap.size := fun e => by have := lt_get (CK12.out.mks e1 (by simp)).2; omega
                clear ck13 d2 hD CK12 HG2
                generalize W12.heap.size = e2 at *
                have c9 := ck14.cells k hkL
                have cg := ck14.get (k := k) (by omega)
                have CK14 := hid ck14
                clear ck14
                go_upto_region 37 with (go_at_call 14; (with_reducible refine cg.mono ?_); rintro e w15 ⟨rfl, b15⟩; clear cg)
                have b16 : Below w15.heap.size w15 (w15.alloc (.cells #[.int .i64 0, .bool false, .int .i64 0, .string ⟨#[]⟩, .slice none 0 0, .slice none 0 0, .int .u64 0, .int .i64 0, .int .i64 0] 26)) := (Below.refl _ _).alloc (Nat.le_refl _) _
                have ck16 := (CK14.out.below' b15).below' b16
                clear b15 b16 CK14 c9
                generalize w15.alloc (.cells #[.int .i64 0, .bool false, .int .i64 0, .string ⟨#[]⟩, .slice none 0 0, .slice none 0 0, .int .u64 0, .int .i64 0, .int .i64 0] 26) = w16 at *
                generalize w15.heap.size = x4 at *
                have cp := ck16.last (by omega) (by omega) ⟨#[48, 49, 50, 51, 52, 53, 54, 55, 56, 57, 48, 49, 50, 51, 52, 53, 54, 55, 56, 57, 48, 49, 50, 51, 52, 53, 54, 55, 56, 57, 48, 49, 50, 51, 52, 53, 54, 55, 56, 57]⟩ (by decide) (.slice none 0 0) (words_nil _ none 0)
                clear ck16
                go_upto_region 38 with (go_at_call 12; (with_reducible refine cp.mono ?_); rintro e w17 ⟨rfl, H17, ck17⟩; clear cp)
                have cr := ck17.reach0 (.slice none 0 0) (words_nil _ none 0)
                have CK17 := hid ck17
                clear ck17
                go_wp2_with (first | (go_at_call 13; (with_reducible refine cr.mono ?_); rintro e w18 ⟨rfl, b18⟩; clear cr) | (go_at_call 10; (with_reducible refine (awake6_c _).mono ?_); rintro e w19 ⟨rfl, b19⟩; (have ck19 := (CK17.out.below' b18).below' b19); (have q19 := cell_of_row _ _ 0 _ _ _ ck19.bx); (have z19 := thaw_row ck19.bx 0); simp at q19; (have CK19 := hid ck19); clear ck19 b18 b19 CK17))
                have u20 : Upd (fun k => k = w.heap.size) w19 (w19.setCell ⟨w.heap.size, 0, none⟩ (.bool true)) := (Upd.refl (fun k => k = w.heap.size) w19).setCell (p := ⟨w.heap.size, 0, none⟩) (.inl rfl) _
                have f20 : (w19.setCell ⟨w.heap.size, 0, none⟩ (.bool true)).heap[w.heap.size]? = some (.cells #[.bool true] 4 (0, 0)) := heap_set (b := w.heap.size) (c := [.bool false]) CK19.out.bx 0 (.bool true)
                obtain ⟨hm1, hm2⟩ : w19.heap[e2]? = some (.deferred (some [])) ∧ w19.heap[e1]? = some (.deferred (some [])) := ⟨(CK19.out.mks e2 (by simp)).2, (CK19.out.mks e1 (by simp)).2⟩
                have hgeM : ∀ k ∈ [e2, e1], w.heap.size ≤ k := fun k hk => CK19.out.mge k hk
                have ne2 : e2 ≠ w.heap.size := fun e => by rw [e, CK19.out.bx] at hm1; cases hm1
                have ne1 : e1 ≠ w.heap.size := fun e => by rw [e, CK19.out.bx] at hm2; cases hm2
                have ge2 : w.heap.size ≤ e2 := hgeM e2 (by simp)
                have ge1 : w.heap.size ≤ e1 := hgeM e1 (by simp)
                have m1 := (u20.block e2 (lt_get hm1) ne2).trans hm1
                have m2 := (u20.block e1 (lt_get hm2) ne1).trans hm2
                have bb := CK19.out.q.bel.trans (u20.below CK19.out.q.bel.size (fun k e => Nat.le_of_eq e.symm))
                clear u20
                generalize w19.setCell ⟨w.heap.size, 0, none⟩ (.bool true) = w20 at *
                refine ⟨by simp, .inl ⟨_, _, rfl, run_takeDeferred m1, ?_⟩⟩
                have m2' : (w20.putObj e2 (.deferred none)).heap[e1]? = some (.deferred (some [])) := (World.putObj_heap_other ne12).trans m2
                refine ⟨by simp, .inl ⟨_, _, rfl, run_takeDeferred m2', ?_⟩⟩
                have u21 : Upd (fun k => k = e2 ∨ k = e1) w20 ((w20.putObj e2 (.deferred none)).putObj e1 (.deferred none)) := (upd_put (S := fun k => k = e2 ∨ k = e1) (.inl rfl) _).trans' (upd_put (S := fun k => k = e2 ∨ k = e1) (.inr rfl) _)
                refine ⟨_, bool_ret' rfl _ _ w.heap.size _ (0, 0) _ rfl ((u21.block _ (lt_get f20) (by omega)).trans f20), rfl, ?_⟩
                exact bb.trans (u21.below bb.size (fun k e => by rcases e with rfl | rfl <;> assumption))
              case stop2 => intro c W' hF; exact hF.elim
            case stop => intro c W' hF; exact hF.elim
end Hk
theorem heapCircles_walk (n : Int) (hn : (Lit.int .i64 n).wf = true) (fr : Int) (hf : (Lit.int .i64 fr).wf = true) (w : World) : Calls Try.prog 5 #[.int .i64 n, .int .i64 fr] w fun e w' => e = .returned (.bool true) ∧ Below w.heap.size w w' := by
  by_cases h : n < 1 ∨ 60 < n
  · exact Hk.hk_bad n fr h w
  · obtain ⟨m, rfl⟩ : ∃ m : Nat, n = m := ⟨n.toNat, by omega⟩
    exact Hk.hk_main m (by omega) (by omega) fr w
end Go.Proofs.Ytaebnnkhjlidiaa.W
