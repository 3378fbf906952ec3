import Derived.Test.YtaebnnkhjlidiabBase26
import Derived.Test.YtaebnnkhjlidiabV7eJ
import Derived.Test.YtaebnnkhjlidiabBase24
import Derived.Test.YtaebnnkhjlidiabCellOpenJ
/- ValueBack: the walk. -/
namespace Go.Proofs.Ytaebnnkhjlidiab.W
open Go.ChangeShapes Go.WideShapes Go.RowKit Go.Shelf
set_option linter.unusedVariables false
/-- a row that is there -/
structure LRow (W : World) (b : Nat) (o : Obj) : Prop where
  lt : b < W.heap.size
  out : W.heap[b]? = some o
theorem lt_of_get {W : World} {b : Nat} {o : Obj} (h : W.heap[b]? = some o) : b < W.heap.size := (Array.getElem?_eq_some_iff.1 h).1
set_option maxRecDepth 100000 in
set_option maxHeartbeats 1000000 in
theorem back_core (i bits : Int) (s : ByteArray) (hi0 : -9223372036854775808 ≤ i) (hi1 : i ≤ 9223372036854775807) (hb0 : 0 ≤ bits) (hb1 : bits < 18446744073709551616) (hs : s.size ≤ 3000) (W : World) : Calls Try.prog 4 #[.int .i64 i, .int .u64 bits, .string s] W fun e w' => e = .returned (.bool true) ∧ Below W.heap.size W w' := by
  have cn := hf_new (Below.refl W.heap.size W) 1000 (by decide)
  rw [show ((1000 : Nat) : Int) = 1000 from rfl] at cn
  have g1 : ¬ (s.size : Int) > 3000 := by omega
  have ns := hid (tn_le s 3000 hs)
  have ls := hid (show s.size ≤ 8388608 by omega)
  have hs0 : sumH [] = 0 := rfl
  have HI := hid (And.intro hi0 hi1)
  have HB := hid (And.intro hb0 hb1)
  clear hs hi0 hi1 hb0 hb1
  go_enter Try.func4, Try.ntmps4
  go_upto_region 6 with (go_at_call 7; (with_reducible refine cn.mono ?_); rintro e W1 ⟨hb, rfl, q1, hB1⟩; clear cn)
  go_upto_region 8 with fail
  go_wp2
  refine wp_loop_rounds 4 ?_
  rw [rounds_succ]
  go_upto_region 11 with fail
  have bA : Below W1.heap.size W1 (W1.alloc (.cells #[.int .i64 2, .int .i64 i, .int .u64 0, .string ⟨#[]⟩, .int .u64 0, .int .i64 3, .int .i64 0, .int .u64 bits, .string ⟨#[]⟩, .int .u64 0, .int .i64 4, .int .i64 0, .int .u64 0, .string s, .int .u64 0] 40)) := (Below.refl _ W1).alloc (Nat.le_refl _) _
  have q2 := q1.below bA
  have fl := World.alloc_heap_new W1 (.cells #[.int .i64 2, .int .i64 i, .int .u64 0, .string ⟨#[]⟩, .int .u64 0, .int .i64 3, .int .i64 0, .int .u64 bits, .string ⟨#[]⟩, .int .u64 0, .int .i64 4, .int .i64 0, .int .u64 0, .string s, .int .u64 0] 40)
  obtain ⟨K2, hK2⟩ : ∃ K', K' = (fun k => k < W.heap.size ∨ (W1.heap.size ≤ k ∧ k < (W1.alloc (.cells #[.int .i64 2, .int .i64 i, .int .u64 0, .string ⟨#[]⟩, .int .u64 0, .int .i64 3, .int .i64 0, .int .u64 bits, .string ⟨#[]⟩, .int .u64 0, .int .i64 4, .int .i64 0, .int .u64 0, .string s, .int .u64 0] 40)).heap.size)) := ⟨_, rfl⟩
  have kl : K2 W1.heap.size := by rw [hK2]; exact .inr ⟨Nat.le_refl _, by rw [World.size_alloc]; omega⟩
  rw [← hK2] at q2
  have o2 := mine_nil W (W1.alloc (.cells #[.int .i64 2, .int .i64 i, .int .u64 0, .string ⟨#[]⟩, .int .u64 0, .int .i64 3, .int .i64 0, .int .u64 bits, .string ⟨#[]⟩, .int .u64 0, .int .i64 4, .int .i64 0, .int .u64 0, .string s, .int .u64 0] 40)) K2
  clear q1 hB1 bA hK2
  generalize W1.heap.size = lb at *
  generalize W1.alloc (.cells #[.int .i64 2, .int .i64 i, .int .u64 0, .string ⟨#[]⟩, .int .u64 0, .int .i64 3, .int .i64 0, .int .u64 bits, .string ⟨#[]⟩, .int .u64 0, .int .i64 4, .int .i64 0, .int .u64 0, .string s, .int .u64 0] 40) = W2 at *
  have qa0 := q2
  have oa0 := o2
  have ka0 := hid kl
  have fa0 := LRow.mk (lt_of_get fl) fl
  have nI2 : Hid (nI i ≤ 2) := hid (by unfold nI; split <;> omega)
  clear q2 o2 kl fl
  generalize W2 = Wa0 at *
  obtain ⟨vc0, Wc0, hrun0, hwc0, bc0⟩ := copy_run (W1 := Wa0.drew) 28 (.slice none 0 0) [] (show WordsAt Wa0 (.slice none 0 0) [] from oa0.words) (by simp)
  have bc0' : Below Wa0.heap.size Wa0 Wc0 := ⟨bc0.os, bc0.tape, bc0.output, bc0.size, bc0.block⟩
  have cb0 := boxI (qa0.below' bc0') vc0 _ hwc0 i HI.out.1 HI.out.2 (by omega) (by simp)
  have hrun0' : (Builtin.append_ #[28, 28] 28 #[.slice (some ⟨Wa0.heap.size, 0, none⟩) 0 0, (.slice none 0 0)]).run Try.prog (Wa0.alloc (.cells #[] 30)).drew = .ok vc0 Wc0 := hrun0
  have fc0 : Wc0.heap[lb]? = some (.cells #[.int .i64 2, .int .i64 i, .int .u64 0, .string ⟨#[]⟩, .int .u64 0, .int .i64 3, .int .i64 0, .int .u64 bits, .string ⟨#[]⟩, .int .u64 0, .int .i64 4, .int .i64 0, .int .u64 0, .string s, .int .u64 0] 40) := (bc0'.block _ (fa0.lt)).trans fa0.out
  have fA0 : (Wa0.alloc (.cells #[] 30)).drew.heap[lb]? = some (.cells #[.int .i64 2, .int .i64 i, .int .u64 0, .string ⟨#[]⟩, .int .u64 0, .int .i64 3, .int .i64 0, .int .u64 bits, .string ⟨#[]⟩, .int .u64 0, .int .i64 4, .int .i64 0, .int .u64 0, .string s, .int .u64 0] 40) := (Below.heap_alloc Wa0 _ lb fa0.lt).trans fa0.out
  refine wp_region_held_drew (S := fun w' => w'.heap[lb]? = some (.cells #[.int .i64 2, .int .i64 i, .int .u64 0, .string ⟨#[]⟩, .int .u64 0, .int .i64 3, .int .i64 0, .int .u64 bits, .string ⟨#[]⟩, .int .u64 0, .int .i64 4, .int .i64 0, .int .u64 0, .string s, .int .u64 0] 40)) (by kernel_rfl) fa0.out ?_
  intro hS
  (refine wpAnyH_take (i := 0) (v := ?_) rfl (by kernel_rfl) (by kernel_rfl) (by kernel_rfl) (fun _ _ _ h => h) (Or.inl ⟨by rfl, ?_⟩) hS ?_); rotate_left; focus (intro w' hSw; (have el := fun j => cell_of_row w' lb j _ _ _ hSw); go_simp; (try with_reducible rfl)); (try simp only [Act.put, List.getElem_toArray, List.getElem_cons_zero, List.getElem_cons_succ, List.setIfInBounds_toArray, List.set_cons_zero, List.set_cons_succ])
  (refine wpAnyH_take (i := 1) (v := ?_) rfl (by kernel_rfl) (by kernel_rfl) (by kernel_rfl) (fun _ _ _ h => h) (Or.inl ⟨by rfl, ?_⟩) hS ?_); rotate_left; focus (intro w' hSw; (have el := fun j => cell_of_row w' lb j _ _ _ hSw); go_simp; (try with_reducible rfl)); (try simp only [Act.put, List.getElem_toArray, List.getElem_cons_zero, List.getElem_cons_succ, List.setIfInBounds_toArray, List.set_cons_zero, List.set_cons_succ])
  (refine wpAnyH_take (i := 2) (v := ?_) rfl (by kernel_rfl) (by kernel_rfl) (by kernel_rfl) (fun _ _ _ h => h) (Or.inl ⟨by rfl, ?_⟩) hS ?_); rotate_left; focus (intro w' hSw; (have el := fun j => cell_of_row w' lb j _ _ _ hSw); go_simp; (try with_reducible rfl)); (try simp only [Act.put, List.getElem_toArray, List.getElem_cons_zero, List.getElem_cons_succ, List.setIfInBounds_toArray, List.set_cons_zero, List.set_cons_succ])
  (refine wpAnyH_take (i := 3) (v := ?_) rfl (by kernel_rfl) (by kernel_rfl) (by kernel_rfl) (fun _ _ _ h => h) (Or.inl ⟨by rfl, ?_⟩) hS ?_); rotate_left; focus (intro w' hSw; (have el := fun j => cell_of_row w' lb j _ _ _ hSw); go_simp; (try with_reducible rfl)); (try simp only [Act.put, List.getElem_toArray, List.getElem_cons_zero, List.getElem_cons_succ, List.setIfInBounds_toArray, List.set_cons_zero, List.set_cons_succ])
  (refine wpAnyH_take (i := 4) (v := ?_) rfl (by kernel_rfl) (by kernel_rfl) (by kernel_rfl) (fun _ _ _ h => h) (Or.inl ⟨by rfl, ?_⟩) hS ?_); rotate_left; focus (intro w' hSw; (have el := fun j => cell_of_row w' lb j _ _ _ hSw); go_simp; (try with_reducible rfl)); (try simp only [Act.put, List.getElem_toArray, List.getElem_cons_zero, List.getElem_cons_succ, List.setIfInBounds_toArray, List.set_cons_zero, List.set_cons_succ])
  (refine wpAnyH_take (i := 6) (v := ?_) rfl (by kernel_rfl) (by kernel_rfl) (by kernel_rfl) (fun _ _ _ h => h) (Or.inl ⟨by rfl, ?_⟩) hS ?_); rotate_left; focus (intro w' hSw; (have el := fun j => cell_of_row w' lb j _ _ _ hSw); go_simp; (try with_reducible rfl)); (try simp only [Act.put, List.getElem_toArray, List.getElem_cons_zero, List.getElem_cons_succ, List.setIfInBounds_toArray, List.set_cons_zero, List.set_cons_succ])
  refine wpAnyH_ready (rs := [5]) (by kernel_rfl) (by simp) ?_
  refine AllReadyH.cons rfl (fun K hK => ?_) AllReadyH.nil
  go_simp
  refine hK.out _ _ fA0 (fun hS2 => ?_)
  clear hK K hS fA0 hrun0
  refine wpAnyH_ready (rs := [7]) (by kernel_rfl) (by simp) ?_
  refine AllReadyH.cons rfl (fun K hK => ?_) AllReadyH.nil
  rw [if_pos (by rfl)]
  refine Lib.wp_append_run _ (.tmp 51) (.tmp 52) 28 28 rfl _ _ rfl rfl _ _ hrun0' ?_
  refine hK.out _ _ fc0 (fun hS3 => ?_)
  clear hK K hS2 hrun0' fc0
  (try simp only [Act.put, List.getElem_toArray, List.getElem_cons_zero, List.getElem_cons_succ, List.setIfInBounds_toArray, List.set_cons_zero, List.set_cons_succ])
  refine wpAnyH_ready (rs := [8]) (by kernel_rfl) (by simp) ?_
  refine AllReadyH.cons rfl (fun K hK => ?_) AllReadyH.nil
  go_simp
  refine cb0.mono ?_
  rintro e Wd0 ⟨x0, H1, rfl, qd0, E0, I0, s0, l0, R0, lt0, U0⟩
  have NC0 : Hid (¬ cls (x0 : Int) = 7) := hid I0.cls
  have J0 := hid I0
  have S0 := hid s0
  have R0' := hid R0
  have EE0 := hid E0
  clear I0 s0 R0 E0
  have od0 := (oa0.below bc0').upd U0
  have fd0 : Wd0.heap[lb]? = some (.cells #[.int .i64 2, .int .i64 i, .int .u64 0, .string ⟨#[]⟩, .int .u64 0, .int .i64 3, .int .i64 0, .int .u64 bits, .string ⟨#[]⟩, .int .u64 0, .int .i64 4, .int .i64 0, .int .u64 0, .string s, .int .u64 0] 40) := (U0.block lb (Nat.lt_of_lt_of_le fa0.lt bc0'.size) (fun e => e.1 ka0.out)).trans hS3
  refine hK.out _ _ fd0 (fun hS4 => ?_)
  clear hK K hS3 cb0 hwc0 bc0 bc0' U0
  (refine wpAnyH_take (i := 9) (v := ?_) rfl (by kernel_rfl) (by kernel_rfl) (by kernel_rfl) (fun _ _ _ h => h) (Or.inl ⟨by rfl, ?_⟩) hS4 ?_); rotate_left; focus (intro w' hSw; (have el := fun j => cell_of_row w' lb j _ _ _ hSw); go_simp; (try with_reducible rfl)); (try simp only [Act.put, List.getElem_toArray, List.getElem_cons_zero, List.getElem_cons_succ, List.setIfInBounds_toArray, List.set_cons_zero, List.set_cons_succ])
  (refine wpAnyH_take (i := 10) (v := ?_) rfl (by kernel_rfl) (by kernel_rfl) (by kernel_rfl) (fun _ _ _ h => h) (Or.inl ⟨by rfl, ?_⟩) hS4 ?_); rotate_left; focus (intro w' hSw; (have el := fun j => cell_of_row w' lb j _ _ _ hSw); go_simp; (try with_reducible rfl)); (try simp only [Act.put, List.getElem_toArray, List.getElem_cons_zero, List.getElem_cons_succ, List.setIfInBounds_toArray, List.set_cons_zero, List.set_cons_succ])
  (refine wpAnyH_take (i := 11) (v := ?_) rfl (by kernel_rfl) (by kernel_rfl) (by kernel_rfl) (fun _ _ _ h => h) (Or.inl ⟨by rfl, ?_⟩) hS4 ?_); rotate_left; focus (intro w' hSw; (have el := fun j => cell_of_row w' lb j _ _ _ hSw); go_simp; (try with_reducible rfl)); (try simp only [Act.put, List.getElem_toArray, List.getElem_cons_zero, List.getElem_cons_succ, List.setIfInBounds_toArray, List.set_cons_zero, List.set_cons_succ])
  (refine wpAnyH_take (i := 12) (v := ?_) rfl (by kernel_rfl) (by kernel_rfl) (by kernel_rfl) (fun _ _ _ h => h) (Or.inl ⟨by rfl, ?_⟩) hS4 ?_); rotate_left; focus (intro w' hSw; (have el := fun j => cell_of_row w' lb j _ _ _ hSw); go_simp; (try with_reducible rfl)); (try simp only [Act.put, List.getElem_toArray, List.getElem_cons_zero, List.getElem_cons_succ, List.setIfInBounds_toArray, List.set_cons_zero, List.set_cons_succ])
  (refine wpAnyH_take (i := 13) (v := ?_) rfl (by kernel_rfl) (by kernel_rfl) (by kernel_rfl) (fun _ _ _ h => h) (Or.inl ⟨by rfl, ?_⟩) hS4 ?_); rotate_left; focus (intro w' hSw; (have el := fun j => cell_of_row w' lb j _ _ _ hSw); go_simp; (try with_reducible rfl)); (try simp only [Act.put, List.getElem_toArray, List.getElem_cons_zero, List.getElem_cons_succ, List.setIfInBounds_toArray, List.set_cons_zero, List.set_cons_succ])
  refine wpAnyH_done (by kernel_rfl) ?_ _
  have cr0 := fun w => refClass_c (x0 : Int) (by omega) (by omega) w
  have nc0 := NC0.out
  go_upto_region 14 with (go_at_call 13; (with_reducible refine (cr0 _).mono ?_); rintro e We0 ⟨rfl, m0, rfl⟩; clear cr0)
  have bD0 : Below Wd0.heap.size Wd0 (Wd0.drewN m0) := ⟨rfl, rfl, rfl, Nat.le_refl _, fun _ _ => rfl⟩
  have qf0 := qd0.below' bD0
  have of0 := od0.below bD0
  have ff0 : (Wd0.drewN m0).heap[lb]? = some (.cells #[.int .i64 2, .int .i64 i, .int .u64 0, .string ⟨#[]⟩, .int .u64 0, .int .i64 3, .int .i64 0, .int .u64 bits, .string ⟨#[]⟩, .int .u64 0, .int .i64 4, .int .i64 0, .int .u64 0, .string s, .int .u64 0] 40) := fd0
  clear qd0 od0 fd0 bD0 nc0
  generalize Wd0.drewN m0 = Wf0 at *
  obtain ⟨vn0, Wg0, hrg0, qg0, og0, ug0⟩ := mine_append qf0 28 _ _ of0 x0 lt0 (by simp)
  have fa1 : LRow Wg0 lb (.cells #[.int .i64 2, .int .i64 i, .int .u64 0, .string ⟨#[]⟩, .int .u64 0, .int .i64 3, .int .i64 0, .int .u64 bits, .string ⟨#[]⟩, .int .u64 0, .int .i64 4, .int .i64 0, .int .u64 0, .string s, .int .u64 0] 40) := by
    have e := (ug0.block lb (lt_of_get ff0) (fun e => own_ne (owns_base of0.row (b' := 0) (fun _ _ => Nat.zero_le _)) ff0 (by decide) e.symm)).trans ff0
    exact ⟨lt_of_get e, e⟩
  obtain ⟨ov1, cv1, hvn0⟩ := slice_of (owns_base og0.row (b' := 0) (fun _ _ => Nat.zero_le _))
  subst hvn0
  obtain ⟨K3, hK3⟩ : ∃ K', K' = (fun k => K2 k ∨ (Wf0.heap.size ≤ k ∧ k < Wg0.heap.size)) := ⟨_, rfl⟩
  rw [← hK3] at qg0 og0
  have ka1 : Hid (K3 lb) := hid (by rw [hK3]; exact .inl ka0.out)
  have hrg0' : (Builtin.append_ #[28, 28] 28 #[(.slice none 0 0), .slice (some ⟨Wf0.heap.size, 0, none⟩) 1 1]).run Try.prog (Wf0.alloc (.cells #[.int .u64 (x0 : Nat)] 30)) = .ok (.slice ov1 1 cv1) Wg0 := hrg0
  have oa1 : Mine W Wg0 K3 (.slice ov1 1 cv1) [x0] := og0
  have L0 : Hid (H1.length ≤ 1) := hid l0
  have qa1 := qg0
  clear hrg0 l0
  clear qf0 of0 ff0 ug0 og0 qg0 hK3 oa0 qa0
  go_wp2_with (at_builtin; refine Lib.wpList_append_run _ rfl (.tmp 64) (.tmp 66) 28 28 rfl _ _ (by simp [Act.eval]) (by simp [Act.eval]) _ _ hrg0' ?_)
  clear hrg0'
  generalize Wg0 = Wa1 at *
  rw [rounds_succ]
  go_upto_region 11 with fail
  obtain ⟨vc1, Wc1, hrun1, hwc1, bc1⟩ := copy_run (W1 := Wa1.drew) 28 (.slice ov1 1 cv1) [x0] (show WordsAt Wa1 (.slice ov1 1 cv1) [x0] from oa1.words) (by simp)
  have bc1' : Below Wa1.heap.size Wa1 Wc1 := ⟨bc1.os, bc1.tape, bc1.output, bc1.size, bc1.block⟩
  have cb1 := boxF (qa1.below' bc1') vc1 bits HB.out.1 HB.out.2
  have hrun1' : (Builtin.append_ #[28, 28] 28 #[.slice (some ⟨Wa1.heap.size, 0, none⟩) 0 0, (.slice ov1 1 cv1)]).run Try.prog (Wa1.alloc (.cells #[] 30)).drew = .ok vc1 Wc1 := hrun1
  have fc1 : Wc1.heap[lb]? = some (.cells #[.int .i64 2, .int .i64 i, .int .u64 0, .string ⟨#[]⟩, .int .u64 0, .int .i64 3, .int .i64 0, .int .u64 bits, .string ⟨#[]⟩, .int .u64 0, .int .i64 4, .int .i64 0, .int .u64 0, .string s, .int .u64 0] 40) := (bc1'.block _ (fa1.lt)).trans fa1.out
  have fA1 : (Wa1.alloc (.cells #[] 30)).drew.heap[lb]? = some (.cells #[.int .i64 2, .int .i64 i, .int .u64 0, .string ⟨#[]⟩, .int .u64 0, .int .i64 3, .int .i64 0, .int .u64 bits, .string ⟨#[]⟩, .int .u64 0, .int .i64 4, .int .i64 0, .int .u64 0, .string s, .int .u64 0] 40) := (Below.heap_alloc Wa1 _ lb fa1.lt).trans fa1.out
  refine wp_region_held_drew (S := fun w' => w'.heap[lb]? = some (.cells #[.int .i64 2, .int .i64 i, .int .u64 0, .string ⟨#[]⟩, .int .u64 0, .int .i64 3, .int .i64 0, .int .u64 bits, .string ⟨#[]⟩, .int .u64 0, .int .i64 4, .int .i64 0, .int .u64 0, .string s, .int .u64 0] 40)) (by kernel_rfl) fa1.out ?_
  intro hS
  (refine wpAnyH_take (i := 0) (v := ?_) rfl (by kernel_rfl) (by kernel_rfl) (by kernel_rfl) (fun _ _ _ h => h) (Or.inl ⟨by rfl, ?_⟩) hS ?_); rotate_left; focus (intro w' hSw; (have el := fun j => cell_of_row w' lb j _ _ _ hSw); go_simp; (try with_reducible rfl)); (try simp only [Act.put, List.getElem_toArray, List.getElem_cons_zero, List.getElem_cons_succ, List.setIfInBounds_toArray, List.set_cons_zero, List.set_cons_succ])
  (refine wpAnyH_take (i := 1) (v := ?_) rfl (by kernel_rfl) (by kernel_rfl) (by kernel_rfl) (fun _ _ _ h => h) (Or.inl ⟨by rfl, ?_⟩) hS ?_); rotate_left; focus (intro w' hSw; (have el := fun j => cell_of_row w' lb j _ _ _ hSw); go_simp; (try with_reducible rfl)); (try simp only [Act.put, List.getElem_toArray, List.getElem_cons_zero, List.getElem_cons_succ, List.setIfInBounds_toArray, List.set_cons_zero, List.set_cons_succ])
  (refine wpAnyH_take (i := 2) (v := ?_) rfl (by kernel_rfl) (by kernel_rfl) (by kernel_rfl) (fun _ _ _ h => h) (Or.inl ⟨by rfl, ?_⟩) hS ?_); rotate_left; focus (intro w' hSw; (have el := fun j => cell_of_row w' lb j _ _ _ hSw); go_simp; (try with_reducible rfl)); (try simp only [Act.put, List.getElem_toArray, List.getElem_cons_zero, List.getElem_cons_succ, List.setIfInBounds_toArray, List.set_cons_zero, List.set_cons_succ])
  (refine wpAnyH_take (i := 3) (v := ?_) rfl (by kernel_rfl) (by kernel_rfl) (by kernel_rfl) (fun _ _ _ h => h) (Or.inl ⟨by rfl, ?_⟩) hS ?_); rotate_left; focus (intro w' hSw; (have el := fun j => cell_of_row w' lb j _ _ _ hSw); go_simp; (try with_reducible rfl)); (try simp only [Act.put, List.getElem_toArray, List.getElem_cons_zero, List.getElem_cons_succ, List.setIfInBounds_toArray, List.set_cons_zero, List.set_cons_succ])
  (refine wpAnyH_take (i := 4) (v := ?_) rfl (by kernel_rfl) (by kernel_rfl) (by kernel_rfl) (fun _ _ _ h => h) (Or.inl ⟨by rfl, ?_⟩) hS ?_); rotate_left; focus (intro w' hSw; (have el := fun j => cell_of_row w' lb j _ _ _ hSw); go_simp; (try with_reducible rfl)); (try simp only [Act.put, List.getElem_toArray, List.getElem_cons_zero, List.getElem_cons_succ, List.setIfInBounds_toArray, List.set_cons_zero, List.set_cons_succ])
  (refine wpAnyH_take (i := 6) (v := ?_) rfl (by kernel_rfl) (by kernel_rfl) (by kernel_rfl) (fun _ _ _ h => h) (Or.inl ⟨by rfl, ?_⟩) hS ?_); rotate_left; focus (intro w' hSw; (have el := fun j => cell_of_row w' lb j _ _ _ hSw); go_simp; (try with_reducible rfl)); (try simp only [Act.put, List.getElem_toArray, List.getElem_cons_zero, List.getElem_cons_succ, List.setIfInBounds_toArray, List.set_cons_zero, List.set_cons_succ])
  refine wpAnyH_ready (rs := [5]) (by kernel_rfl) (by simp) ?_
  refine AllReadyH.cons rfl (fun K hK => ?_) AllReadyH.nil
  go_simp
  refine hK.out _ _ fA1 (fun hS2 => ?_)
  clear hK K hS fA1 hrun1
  refine wpAnyH_ready (rs := [7]) (by kernel_rfl) (by simp) ?_
  refine AllReadyH.cons rfl (fun K hK => ?_) AllReadyH.nil
  rw [if_pos (by rfl)]
  refine Lib.wp_append_run _ (.tmp 51) (.tmp 52) 28 28 rfl _ _ rfl rfl _ _ hrun1' ?_
  refine hK.out _ _ fc1 (fun hS3 => ?_)
  clear hK K hS2 hrun1' fc1
  (try simp only [Act.put, List.getElem_toArray, List.getElem_cons_zero, List.getElem_cons_succ, List.setIfInBounds_toArray, List.set_cons_zero, List.set_cons_succ])
  refine wpAnyH_ready (rs := [8]) (by kernel_rfl) (by simp) ?_
  refine AllReadyH.cons rfl (fun K hK => ?_) AllReadyH.nil
  go_simp
  refine cb1.mono ?_
  rintro e Wd1 ⟨x1, H2, rfl, qd1, E1, I1, s1, l1, R1, lt1, U1⟩
  have NC1 : Hid (¬ cls (x1 : Int) = 7) := hid (by rw [I1, fltW_cls]; decide)
  have J1 := hid I1
  have S1 := hid s1
  have R1' := hid R1
  have EE1 := hid E1
  clear I1 s1 R1 E1
  have od1 := (oa1.below bc1').upd U1
  have fd1 : Wd1.heap[lb]? = some (.cells #[.int .i64 2, .int .i64 i, .int .u64 0, .string ⟨#[]⟩, .int .u64 0, .int .i64 3, .int .i64 0, .int .u64 bits, .string ⟨#[]⟩, .int .u64 0, .int .i64 4, .int .i64 0, .int .u64 0, .string s, .int .u64 0] 40) := (U1.block lb (Nat.lt_of_lt_of_le fa1.lt bc1'.size) (fun e => e.1 ka1.out)).trans hS3
  refine hK.out _ _ fd1 (fun hS4 => ?_)
  clear hK K hS3 cb1 hwc1 bc1 bc1' U1
  (refine wpAnyH_take (i := 9) (v := ?_) rfl (by kernel_rfl) (by kernel_rfl) (by kernel_rfl) (fun _ _ _ h => h) (Or.inl ⟨by rfl, ?_⟩) hS4 ?_); rotate_left; focus (intro w' hSw; (have el := fun j => cell_of_row w' lb j _ _ _ hSw); go_simp; (try with_reducible rfl)); (try simp only [Act.put, List.getElem_toArray, List.getElem_cons_zero, List.getElem_cons_succ, List.setIfInBounds_toArray, List.set_cons_zero, List.set_cons_succ])
  (refine wpAnyH_take (i := 10) (v := ?_) rfl (by kernel_rfl) (by kernel_rfl) (by kernel_rfl) (fun _ _ _ h => h) (Or.inl ⟨by rfl, ?_⟩) hS4 ?_); rotate_left; focus (intro w' hSw; (have el := fun j => cell_of_row w' lb j _ _ _ hSw); go_simp; (try with_reducible rfl)); (try simp only [Act.put, List.getElem_toArray, List.getElem_cons_zero, List.getElem_cons_succ, List.setIfInBounds_toArray, List.set_cons_zero, List.set_cons_succ])
  (refine wpAnyH_take (i := 11) (v := ?_) rfl (by kernel_rfl) (by kernel_rfl) (by kernel_rfl) (fun _ _ _ h => h) (Or.inl ⟨by rfl, ?_⟩) hS4 ?_); rotate_left; focus (intro w' hSw; (have el := fun j => cell_of_row w' lb j _ _ _ hSw); go_simp; (try with_reducible rfl)); (try simp only [Act.put, List.getElem_toArray, List.getElem_cons_zero, List.getElem_cons_succ, List.setIfInBounds_toArray, List.set_cons_zero, List.set_cons_succ])
  (refine wpAnyH_take (i := 12) (v := ?_) rfl (by kernel_rfl) (by kernel_rfl) (by kernel_rfl) (fun _ _ _ h => h) (Or.inl ⟨by rfl, ?_⟩) hS4 ?_); rotate_left; focus (intro w' hSw; (have el := fun j => cell_of_row w' lb j _ _ _ hSw); go_simp; (try with_reducible rfl)); (try simp only [Act.put, List.getElem_toArray, List.getElem_cons_zero, List.getElem_cons_succ, List.setIfInBounds_toArray, List.set_cons_zero, List.set_cons_succ])
  (refine wpAnyH_take (i := 13) (v := ?_) rfl (by kernel_rfl) (by kernel_rfl) (by kernel_rfl) (fun _ _ _ h => h) (Or.inl ⟨by rfl, ?_⟩) hS4 ?_); rotate_left; focus (intro w' hSw; (have el := fun j => cell_of_row w' lb j _ _ _ hSw); go_simp; (try with_reducible rfl)); (try simp only [Act.put, List.getElem_toArray, List.getElem_cons_zero, List.getElem_cons_succ, List.setIfInBounds_toArray, List.set_cons_zero, List.set_cons_succ])
  refine wpAnyH_done (by kernel_rfl) ?_ _
  have cr1 := fun w => refClass_c (x1 : Int) (by omega) (by omega) w
  have nc1 := NC1.out
  go_upto_region 14 with (go_at_call 13; (with_reducible refine (cr1 _).mono ?_); rintro e We1 ⟨rfl, m1, rfl⟩; clear cr1)
  have bD1 : Below Wd1.heap.size Wd1 (Wd1.drewN m1) := ⟨rfl, rfl, rfl, Nat.le_refl _, fun _ _ => rfl⟩
  have qf1 := qd1.below' bD1
  have of1 := od1.below bD1
  have ff1 : (Wd1.drewN m1).heap[lb]? = some (.cells #[.int .i64 2, .int .i64 i, .int .u64 0, .string ⟨#[]⟩, .int .u64 0, .int .i64 3, .int .i64 0, .int .u64 bits, .string ⟨#[]⟩, .int .u64 0, .int .i64 4, .int .i64 0, .int .u64 0, .string s, .int .u64 0] 40) := fd1
  clear qd1 od1 fd1 bD1 nc1
  generalize Wd1.drewN m1 = Wf1 at *
  obtain ⟨vn1, Wg1, hrg1, qg1, og1, ug1⟩ := mine_append qf1 28 _ _ of1 x1 lt1 (by simp)
  have fa2 : LRow Wg1 lb (.cells #[.int .i64 2, .int .i64 i, .int .u64 0, .string ⟨#[]⟩, .int .u64 0, .int .i64 3, .int .i64 0, .int .u64 bits, .string ⟨#[]⟩, .int .u64 0, .int .i64 4, .int .i64 0, .int .u64 0, .string s, .int .u64 0] 40) := by
    have e := (ug1.block lb (lt_of_get ff1) (fun e => own_ne (owns_base of1.row (b' := 0) (fun _ _ => Nat.zero_le _)) ff1 (by decide) e.symm)).trans ff1
    exact ⟨lt_of_get e, e⟩
  obtain ⟨ov2, cv2, hvn1⟩ := slice_of (owns_base og1.row (b' := 0) (fun _ _ => Nat.zero_le _))
  subst hvn1
  obtain ⟨K4, hK4⟩ : ∃ K', K' = (fun k => K3 k ∨ (Wf1.heap.size ≤ k ∧ k < Wg1.heap.size)) := ⟨_, rfl⟩
  rw [← hK4] at qg1 og1
  have ka2 : Hid (K4 lb) := hid (by rw [hK4]; exact .inl ka1.out)
  have hrg1' : (Builtin.append_ #[28, 28] 28 #[(.slice ov1 1 cv1), .slice (some ⟨Wf1.heap.size, 0, none⟩) 1 1]).run Try.prog (Wf1.alloc (.cells #[.int .u64 (x1 : Nat)] 30)) = .ok (.slice ov2 2 cv2) Wg1 := hrg1
  have oa2 : Mine W Wg1 K4 (.slice ov2 2 cv2) [x0, x1] := og1
  have L1 : Hid (H2.length ≤ 2) := hid (by have := L0.out; omega)
  have qa2 := qg1
  clear hrg1 l1
  clear qf1 of1 ff1 ug1 og1 qg1 hK4 oa1 qa1
  go_wp2_with (at_builtin; refine Lib.wpList_append_run _ rfl (.tmp 64) (.tmp 66) 28 28 rfl _ _ (by simp [Act.eval]) (by simp [Act.eval]) _ _ hrg1' ?_)
  clear hrg1'
  generalize Wg1 = Wa2 at *
  rw [rounds_succ]
  go_upto_region 11 with fail
  obtain ⟨vc2, Wc2, hrun2, hwc2, bc2⟩ := copy_run (W1 := Wa2.drew) 28 (.slice ov2 2 cv2) [x0, x1] (show WordsAt Wa2 (.slice ov2 2 cv2) [x0, x1] from oa2.words) (by simp)
  have bc2' : Below Wa2.heap.size Wa2 Wc2 := ⟨bc2.os, bc2.tape, bc2.output, bc2.size, bc2.block⟩
  have cb2 := boxS (qa2.below' bc2') vc2 _ hwc2 s ls.out (by have := ns.out; have := nI2.out; have := S0.out; have := S1.out; omega) (by have := L1.out; omega)
  have hrun2' : (Builtin.append_ #[28, 28] 28 #[.slice (some ⟨Wa2.heap.size, 0, none⟩) 0 0, (.slice ov2 2 cv2)]).run Try.prog (Wa2.alloc (.cells #[] 30)).drew = .ok vc2 Wc2 := hrun2
  have fc2 : Wc2.heap[lb]? = some (.cells #[.int .i64 2, .int .i64 i, .int .u64 0, .string ⟨#[]⟩, .int .u64 0, .int .i64 3, .int .i64 0, .int .u64 bits, .string ⟨#[]⟩, .int .u64 0, .int .i64 4, .int .i64 0, .int .u64 0, .string s, .int .u64 0] 40) := (bc2'.block _ (fa2.lt)).trans fa2.out
  have fA2 : (Wa2.alloc (.cells #[] 30)).drew.heap[lb]? = some (.cells #[.int .i64 2, .int .i64 i, .int .u64 0, .string ⟨#[]⟩, .int .u64 0, .int .i64 3, .int .i64 0, .int .u64 bits, .string ⟨#[]⟩, .int .u64 0, .int .i64 4, .int .i64 0, .int .u64 0, .string s, .int .u64 0] 40) := (Below.heap_alloc Wa2 _ lb fa2.lt).trans fa2.out
  refine wp_region_held_drew (S := fun w' => w'.heap[lb]? = some (.cells #[.int .i64 2, .int .i64 i, .int .u64 0, .string ⟨#[]⟩, .int .u64 0, .int .i64 3, .int .i64 0, .int .u64 bits, .string ⟨#[]⟩, .int .u64 0, .int .i64 4, .int .i64 0, .int .u64 0, .string s, .int .u64 0] 40)) (by kernel_rfl) fa2.out ?_
  intro hS
  (refine wpAnyH_take (i := 0) (v := ?_) rfl (by kernel_rfl) (by kernel_rfl) (by kernel_rfl) (fun _ _ _ h => h) (Or.inl ⟨by rfl, ?_⟩) hS ?_); rotate_left; focus (intro w' hSw; (have el := fun j => cell_of_row w' lb j _ _ _ hSw); go_simp; (try with_reducible rfl)); (try simp only [Act.put, List.getElem_toArray, List.getElem_cons_zero, List.getElem_cons_succ, List.setIfInBounds_toArray, List.set_cons_zero, List.set_cons_succ])
  (refine wpAnyH_take (i := 1) (v := ?_) rfl (by kernel_rfl) (by kernel_rfl) (by kernel_rfl) (fun _ _ _ h => h) (Or.inl ⟨by rfl, ?_⟩) hS ?_); rotate_left; focus (intro w' hSw; (have el := fun j => cell_of_row w' lb j _ _ _ hSw); go_simp; (try with_reducible rfl)); (try simp only [Act.put, List.getElem_toArray, List.getElem_cons_zero, List.getElem_cons_succ, List.setIfInBounds_toArray, List.set_cons_zero, List.set_cons_succ])
  (refine wpAnyH_take (i := 2) (v := ?_) rfl (by kernel_rfl) (by kernel_rfl) (by kernel_rfl) (fun _ _ _ h => h) (Or.inl ⟨by rfl, ?_⟩) hS ?_); rotate_left; focus (intro w' hSw; (have el := fun j => cell_of_row w' lb j _ _ _ hSw); go_simp; (try with_reducible rfl)); (try simp only [Act.put, List.getElem_toArray, List.getElem_cons_zero, List.getElem_cons_succ, List.setIfInBounds_toArray, List.set_cons_zero, List.set_cons_succ])
  (refine wpAnyH_take (i := 3) (v := ?_) rfl (by kernel_rfl) (by kernel_rfl) (by kernel_rfl) (fun _ _ _ h => h) (Or.inl ⟨by rfl, ?_⟩) hS ?_); rotate_left; focus (intro w' hSw; (have el := fun j => cell_of_row w' lb j _ _ _ hSw); go_simp; (try with_reducible rfl)); (try simp only [Act.put, List.getElem_toArray, List.getElem_cons_zero, List.getElem_cons_succ, List.setIfInBounds_toArray, List.set_cons_zero, List.set_cons_succ])
  (refine wpAnyH_take (i := 4) (v := ?_) rfl (by kernel_rfl) (by kernel_rfl) (by kernel_rfl) (fun _ _ _ h => h) (Or.inl ⟨by rfl, ?_⟩) hS ?_); rotate_left; focus (intro w' hSw; (have el := fun j => cell_of_row w' lb j _ _ _ hSw); go_simp; (try with_reducible rfl)); (try simp only [Act.put, List.getElem_toArray, List.getElem_cons_zero, List.getElem_cons_succ, List.setIfInBounds_toArray, List.set_cons_zero, List.set_cons_succ])
  (refine wpAnyH_take (i := 6) (v := ?_) rfl (by kernel_rfl) (by kernel_rfl) (by kernel_rfl) (fun _ _ _ h => h) (Or.inl ⟨by rfl, ?_⟩) hS ?_); rotate_left; focus (intro w' hSw; (have el := fun j => cell_of_row w' lb j _ _ _ hSw); go_simp; (try with_reducible rfl)); (try simp only [Act.put, List.getElem_toArray, List.getElem_cons_zero, List.getElem_cons_succ, List.setIfInBounds_toArray, List.set_cons_zero, List.set_cons_succ])
  refine wpAnyH_ready (rs := [5]) (by kernel_rfl) (by simp) ?_
  refine AllReadyH.cons rfl (fun K hK => ?_) AllReadyH.nil
  go_simp
  refine hK.out _ _ fA2 (fun hS2 => ?_)
  clear hK K hS fA2 hrun2
  refine wpAnyH_ready (rs := [7]) (by kernel_rfl) (by simp) ?_
  refine AllReadyH.cons rfl (fun K hK => ?_) AllReadyH.nil
  rw [if_pos (by rfl)]
  refine Lib.wp_append_run _ (.tmp 51) (.tmp 52) 28 28 rfl _ _ rfl rfl _ _ hrun2' ?_
  refine hK.out _ _ fc2 (fun hS3 => ?_)
  clear hK K hS2 hrun2' fc2
  (try simp only [Act.put, List.getElem_toArray, List.getElem_cons_zero, List.getElem_cons_succ, List.setIfInBounds_toArray, List.set_cons_zero, List.set_cons_succ])
  refine wpAnyH_ready (rs := [8]) (by kernel_rfl) (by simp) ?_
  refine AllReadyH.cons rfl (fun K hK => ?_) AllReadyH.nil
  go_simp
  refine cb2.mono ?_
  rintro e Wd2 ⟨x2, H3, rfl, qd2, E2, I2, s2, l2, R2, lt2, U2⟩
  have NC2 : Hid (¬ cls (x2 : Int) = 7) := hid I2.cls
  have J2 := hid I2
  have S2 := hid s2
  have R2' := hid R2
  have EE2 := hid E2
  clear I2 s2 R2 E2
  have od2 := (oa2.below bc2').upd U2
  have fd2 : Wd2.heap[lb]? = some (.cells #[.int .i64 2, .int .i64 i, .int .u64 0, .string ⟨#[]⟩, .int .u64 0, .int .i64 3, .int .i64 0, .int .u64 bits, .string ⟨#[]⟩, .int .u64 0, .int .i64 4, .int .i64 0, .int .u64 0, .string s, .int .u64 0] 40) := (U2.block lb (Nat.lt_of_lt_of_le fa2.lt bc2'.size) (fun e => e.1 ka2.out)).trans hS3
  refine hK.out _ _ fd2 (fun hS4 => ?_)
  clear hK K hS3 cb2 hwc2 bc2 bc2' U2
  (refine wpAnyH_take (i := 9) (v := ?_) rfl (by kernel_rfl) (by kernel_rfl) (by kernel_rfl) (fun _ _ _ h => h) (Or.inl ⟨by rfl, ?_⟩) hS4 ?_); rotate_left; focus (intro w' hSw; (have el := fun j => cell_of_row w' lb j _ _ _ hSw); go_simp; (try with_reducible rfl)); (try simp only [Act.put, List.getElem_toArray, List.getElem_cons_zero, List.getElem_cons_succ, List.setIfInBounds_toArray, List.set_cons_zero, List.set_cons_succ])
  (refine wpAnyH_take (i := 10) (v := ?_) rfl (by kernel_rfl) (by kernel_rfl) (by kernel_rfl) (fun _ _ _ h => h) (Or.inl ⟨by rfl, ?_⟩) hS4 ?_); rotate_left; focus (intro w' hSw; (have el := fun j => cell_of_row w' lb j _ _ _ hSw); go_simp; (try with_reducible rfl)); (try simp only [Act.put, List.getElem_toArray, List.getElem_cons_zero, List.getElem_cons_succ, List.setIfInBounds_toArray, List.set_cons_zero, List.set_cons_succ])
  (refine wpAnyH_take (i := 11) (v := ?_) rfl (by kernel_rfl) (by kernel_rfl) (by kernel_rfl) (fun _ _ _ h => h) (Or.inl ⟨by rfl, ?_⟩) hS4 ?_); rotate_left; focus (intro w' hSw; (have el := fun j => cell_of_row w' lb j _ _ _ hSw); go_simp; (try with_reducible rfl)); (try simp only [Act.put, List.getElem_toArray, List.getElem_cons_zero, List.getElem_cons_succ, List.setIfInBounds_toArray, List.set_cons_zero, List.set_cons_succ])
  (refine wpAnyH_take (i := 12) (v := ?_) rfl (by kernel_rfl) (by kernel_rfl) (by kernel_rfl) (fun _ _ _ h => h) (Or.inl ⟨by rfl, ?_⟩) hS4 ?_); rotate_left; focus (intro w' hSw; (have el := fun j => cell_of_row w' lb j _ _ _ hSw); go_simp; (try with_reducible rfl)); (try simp only [Act.put, List.getElem_toArray, List.getElem_cons_zero, List.getElem_cons_succ, List.setIfInBounds_toArray, List.set_cons_zero, List.set_cons_succ])
  (refine wpAnyH_take (i := 13) (v := ?_) rfl (by kernel_rfl) (by kernel_rfl) (by kernel_rfl) (fun _ _ _ h => h) (Or.inl ⟨by rfl, ?_⟩) hS4 ?_); rotate_left; focus (intro w' hSw; (have el := fun j => cell_of_row w' lb j _ _ _ hSw); go_simp; (try with_reducible rfl)); (try simp only [Act.put, List.getElem_toArray, List.getElem_cons_zero, List.getElem_cons_succ, List.setIfInBounds_toArray, List.set_cons_zero, List.set_cons_succ])
  refine wpAnyH_done (by kernel_rfl) ?_ _
  have cr2 := fun w => refClass_c (x2 : Int) (by omega) (by omega) w
  have nc2 := NC2.out
  go_upto_region 14 with (go_at_call 13; (with_reducible refine (cr2 _).mono ?_); rintro e We2 ⟨rfl, m2, rfl⟩; clear cr2)
  have bD2 : Below Wd2.heap.size Wd2 (Wd2.drewN m2) := ⟨rfl, rfl, rfl, Nat.le_refl _, fun _ _ => rfl⟩
  have qf2 := qd2.below' bD2
  have of2 := od2.below bD2
  have ff2 : (Wd2.drewN m2).heap[lb]? = some (.cells #[.int .i64 2, .int .i64 i, .int .u64 0, .string ⟨#[]⟩, .int .u64 0, .int .i64 3, .int .i64 0, .int .u64 bits, .string ⟨#[]⟩, .int .u64 0, .int .i64 4, .int .i64 0, .int .u64 0, .string s, .int .u64 0] 40) := fd2
  clear qd2 od2 fd2 bD2 nc2
  generalize Wd2.drewN m2 = Wf2 at *
  obtain ⟨vn2, Wg2, hrg2, qg2, og2, ug2⟩ := mine_append qf2 28 _ _ of2 x2 lt2 (by simp)
  have fa3 : LRow Wg2 lb (.cells #[.int .i64 2, .int .i64 i, .int .u64 0, .string ⟨#[]⟩, .int .u64 0, .int .i64 3, .int .i64 0, .int .u64 bits, .string ⟨#[]⟩, .int .u64 0, .int .i64 4, .int .i64 0, .int .u64 0, .string s, .int .u64 0] 40) := by
    have e := (ug2.block lb (lt_of_get ff2) (fun e => own_ne (owns_base of2.row (b' := 0) (fun _ _ => Nat.zero_le _)) ff2 (by decide) e.symm)).trans ff2
    exact ⟨lt_of_get e, e⟩
  obtain ⟨ov3, cv3, hvn2⟩ := slice_of (owns_base og2.row (b' := 0) (fun _ _ => Nat.zero_le _))
  subst hvn2
  obtain ⟨K5, hK5⟩ : ∃ K', K' = (fun k => K4 k ∨ (Wf2.heap.size ≤ k ∧ k < Wg2.heap.size)) := ⟨_, rfl⟩
  rw [← hK5] at qg2 og2
  have ka3 : Hid (K5 lb) := hid (by rw [hK5]; exact .inl ka2.out)
  have hrg2' : (Builtin.append_ #[28, 28] 28 #[(.slice ov2 2 cv2), .slice (some ⟨Wf2.heap.size, 0, none⟩) 1 1]).run Try.prog (Wf2.alloc (.cells #[.int .u64 (x2 : Nat)] 30)) = .ok (.slice ov3 3 cv3) Wg2 := hrg2
  have oa3 : Mine W Wg2 K5 (.slice ov3 3 cv3) [x0, x1, x2] := og2
  have L2 : Hid (H3.length ≤ 3) := hid (by have := L1.out; omega)
  have qa3 := qg2
  clear hrg2 l2
  clear qf2 of2 ff2 ug2 og2 qg2 hK5 oa2 qa2
  go_wp2_with (at_builtin; refine Lib.wpList_append_run _ rfl (.tmp 64) (.tmp 66) 28 28 rfl _ _ (by simp [Act.eval]) (by simp [Act.eval]) _ _ hrg2' ?_)
  clear hrg2'
  generalize Wg2 = Wa3 at *
  rw [rounds_succ]
  obtain ⟨g3, hg3⟩ : ∃ g, ov3 = some ⟨g, 0, none⟩ := by
    obtain ⟨g, cap, e, _⟩ := own_slice (owns_base oa3.row (b' := 0) (fun _ _ => Nat.zero_le _)) (by simp)
    cases e
    exact ⟨g, rfl⟩
  subst hg3
  have cr0g := oa3.row.cellAt 0 (by simp)
  have cr1g := oa3.row.cellAt 1 (by simp)
  have cr2g := oa3.row.cellAt 2 (by simp)
  simp only [wds, List.map_cons, List.map_nil, List.getElem?_cons_zero, List.getElem?_cons_succ] at cr0g cr1g cr2g
  have cu0 := hid (fun w hB => unbox_int (qa3.2.choose_spec.1.below (W' := w) hB) x0 i ((J0.out.ext EE1.out).ext EE2.out))
  have cu1 := hid (fun (w : World) (hB : Below Wa3.heap.size Wa3 w) => unbox_flt (x1 : Int) (by omega) (by omega) (by rw [J1.out, fltW_cls]) (.pointer (some ⟨hb, 0, none⟩)) w)
  have cu2 := hid (fun w hB => unbox_txt (qa3.2.choose_spec.1.below (W' := w) hB) x2 s J2.out)
  have f00 : fltW 0 = 0 := by decide
  have RR := hid (allR_reach (R2'.out _ (R1'.out _ (R0'.out [] (fun i c h => by simp at h)))))
  have SS := hid (show sumH H3 = nI i + nT s by have := S0.out; have := S1.out; have := S2.out; omega)
  have QA := hid qa3
  have OA := hid oa3
  clear qa3 oa3
  obtain ⟨Wz0, hz0⟩ : ∃ w, w = Wa3 := ⟨_, rfl⟩
  have bz0 : Below Wa3.heap.size Wa3 Wz0 := by rw [hz0]; exact Below.refl _ _
  rw [← hz0]
  clear hz0
  go_upto_region 15 with fail
  go_wp2
  refine wp_loop_rounds 4 ?_
  have er0 := below_cell bz0 cr0g
  have el0 : LRow Wz0 lb (.cells #[.int .i64 2, .int .i64 i, .int .u64 0, .string ⟨#[]⟩, .int .u64 0, .int .i64 3, .int .i64 0, .int .u64 bits, .string ⟨#[]⟩, .int .u64 0, .int .i64 4, .int .i64 0, .int .u64 0, .string s, .int .u64 0] 40) := ⟨Nat.lt_of_lt_of_le fa3.lt bz0.size, (bz0.block _ fa3.lt).trans fa3.out⟩
  have cU0 := cu0.out Wz0 bz0
  rw [rounds_succ]
  go_upto_region 18 with fail
  go_upto_region 19 with (go_at_call 14; (with_reducible refine cU0.mono ?_); rintro e Wu0 ⟨rfl, bu0⟩; clear cU0)
  have bv0 : Below Wz0.heap.size Wz0 (Wu0.alloc (.cells #[.int .i64 2, .int .i64 i, .int .u64 0, .string ⟨#[]⟩, .int .u64 0] 40)) := bu0.alloc bu0.size _
  have fv0 := World.alloc_heap_new Wu0 (.cells #[.int .i64 2, .int .i64 i, .int .u64 0, .string ⟨#[]⟩, .int .u64 0] 40)
  have zu0 : Wz0.heap.size ≤ Wu0.heap.size := bu0.size
  have fl0 : (Wu0.alloc (.cells #[.int .i64 2, .int .i64 i, .int .u64 0, .string ⟨#[]⟩, .int .u64 0] 40)).heap[lb]? = some (.cells #[.int .i64 2, .int .i64 i, .int .u64 0, .string ⟨#[]⟩, .int .u64 0, .int .i64 3, .int .i64 0, .int .u64 bits, .string ⟨#[]⟩, .int .u64 0, .int .i64 4, .int .i64 0, .int .u64 0, .string s, .int .u64 0] 40) := (bv0.block _ el0.lt).trans el0.out
  clear bu0 er0 el0
  generalize Wu0.heap.size = bx0 at *
  generalize Wu0.alloc (.cells #[.int .i64 2, .int .i64 i, .int .u64 0, .string ⟨#[]⟩, .int .u64 0] 40) = Wv0 at *
  have eL0 := fun j => cell_of_row Wv0 lb j _ _ _ fl0
  go_upto_region 20 with fail
  have bw0 : Below Wz0.heap.size Wz0 (Wv0.alloc (.cells #[.int .i64 2, .int .i64 i, .int .u64 0, .string ⟨#[]⟩, .int .u64 0] 40)) := bv0.alloc bv0.size _
  have fw0 := World.alloc_heap_new Wv0 (.cells #[.int .i64 2, .int .i64 i, .int .u64 0, .string ⟨#[]⟩, .int .u64 0] 40)
  have fv0' : (Wv0.alloc (.cells #[.int .i64 2, .int .i64 i, .int .u64 0, .string ⟨#[]⟩, .int .u64 0] 40)).heap[bx0]? = some (.cells #[.int .i64 2, .int .i64 i, .int .u64 0, .string ⟨#[]⟩, .int .u64 0] 40) := (Below.heap_alloc Wv0 _ bx0 (lt_of_get fv0)).trans fv0
  have zv0 := bv0.size
  have nb0 : bx0 ≠ Wv0.heap.size := by have := lt_of_get fv0; omega
  clear eL0 fl0 fv0 bv0
  generalize Wv0.heap.size = by0 at *
  generalize Wv0.alloc (.cells #[.int .i64 2, .int .i64 i, .int .u64 0, .string ⟨#[]⟩, .int .u64 0] 40) = Ww0 at *
  have eW0 := fun j => cell_of_row Ww0 by0 j _ _ _ fw0
  have zW0 : ∀ j, Ww0.frozen? ⟨by0, j, none⟩ = false := fun j => by simp only [World.frozen?, fw0]; simp
  have cf0 := fun w => refFromFloat_c 0 (by omega) (by omega) w
  rw [f00] at cf0
  go_upto_region 21 with (go_at_call 15; (with_reducible refine (cf0 _).mono ?_); rintro e w' ⟨rfl, hw⟩; (have hw' := hw.symm); subst hw'; clear hw)
  have fx0 := heap_set (c := [.int .i64 2, .int .i64 i, .int .u64 0, .string ⟨#[]⟩, .int .u64 0]) fw0 2 (.int .u64 0)
  have fy0 : (Ww0.setCell ⟨by0, 2, none⟩ (.int .u64 0)).heap[bx0]? = some (.cells #[.int .i64 2, .int .i64 i, .int .u64 0, .string ⟨#[]⟩, .int .u64 0] 40) := (Below.heap_setCell _ _ _ _ nb0).trans fv0'
  have bz1' : Below Wz0.heap.size Wz0 (Ww0.setCell ⟨by0, 2, none⟩ (.int .u64 0)) := bw0.setCell (p := ⟨by0, 2, none⟩) (by show Wz0.heap.size ≤ by0; omega) _
  have bz1 := bz0.trans (bz1'.mono bz0.size)
  clear bw0 fw0 fv0' eW0 zW0 cf0 bz1' nb0 zv0 zu0
  generalize Ww0.setCell ⟨by0, 2, none⟩ (.int .u64 0) = Wz1 at *
  have eX0 := fun j => cell_of_row Wz1 by0 j _ _ _ fx0
  have eY0 := fun j => cell_of_row Wz1 bx0 j _ _ _ fy0
  clear fx0 fy0
  go_wp2
  clear eX0 eY0
  have er1 := below_cell bz1 cr1g
  have el1 : LRow Wz1 lb (.cells #[.int .i64 2, .int .i64 i, .int .u64 0, .string ⟨#[]⟩, .int .u64 0, .int .i64 3, .int .i64 0, .int .u64 bits, .string ⟨#[]⟩, .int .u64 0, .int .i64 4, .int .i64 0, .int .u64 0, .string s, .int .u64 0] 40) := ⟨Nat.lt_of_lt_of_le fa3.lt bz1.size, (bz1.block _ fa3.lt).trans fa3.out⟩
  have cU1 := cu1.out Wz1 bz1
  rw [rounds_succ]
  go_upto_region 18 with fail
  go_upto_region 19 with (go_at_call 14; (with_reducible refine cU1.mono ?_); rintro e Wu1 ⟨rfl, bu1⟩; clear cU1)
  have bv1 : Below Wz1.heap.size Wz1 (Wu1.alloc (.cells #[.int .i64 3, .int .i64 0, .int .u64 (x1 : Nat), .string ⟨#[]⟩, .int .u64 0] 40)) := bu1.alloc bu1.size _
  have fv1 := World.alloc_heap_new Wu1 (.cells #[.int .i64 3, .int .i64 0, .int .u64 (x1 : Nat), .string ⟨#[]⟩, .int .u64 0] 40)
  have zu1 : Wz1.heap.size ≤ Wu1.heap.size := bu1.size
  have fl1 : (Wu1.alloc (.cells #[.int .i64 3, .int .i64 0, .int .u64 (x1 : Nat), .string ⟨#[]⟩, .int .u64 0] 40)).heap[lb]? = some (.cells #[.int .i64 2, .int .i64 i, .int .u64 0, .string ⟨#[]⟩, .int .u64 0, .int .i64 3, .int .i64 0, .int .u64 bits, .string ⟨#[]⟩, .int .u64 0, .int .i64 4, .int .i64 0, .int .u64 0, .string s, .int .u64 0] 40) := (bv1.block _ el1.lt).trans el1.out
  clear bu1 er1 el1
  generalize Wu1.heap.size = bx1 at *
  generalize Wu1.alloc (.cells #[.int .i64 3, .int .i64 0, .int .u64 (x1 : Nat), .string ⟨#[]⟩, .int .u64 0] 40) = Wv1 at *
  have eL1 := fun j => cell_of_row Wv1 lb j _ _ _ fl1
  go_upto_region 20 with fail
  have bw1 : Below Wz1.heap.size Wz1 (Wv1.alloc (.cells #[.int .i64 3, .int .i64 0, .int .u64 bits, .string ⟨#[]⟩, .int .u64 0] 40)) := bv1.alloc bv1.size _
  have fw1 := World.alloc_heap_new Wv1 (.cells #[.int .i64 3, .int .i64 0, .int .u64 bits, .string ⟨#[]⟩, .int .u64 0] 40)
  have fv1' : (Wv1.alloc (.cells #[.int .i64 3, .int .i64 0, .int .u64 bits, .string ⟨#[]⟩, .int .u64 0] 40)).heap[bx1]? = some (.cells #[.int .i64 3, .int .i64 0, .int .u64 (x1 : Nat), .string ⟨#[]⟩, .int .u64 0] 40) := (Below.heap_alloc Wv1 _ bx1 (lt_of_get fv1)).trans fv1
  have zv1 := bv1.size
  have nb1 : bx1 ≠ Wv1.heap.size := by have := lt_of_get fv1; omega
  clear eL1 fl1 fv1 bv1
  generalize Wv1.heap.size = by1 at *
  generalize Wv1.alloc (.cells #[.int .i64 3, .int .i64 0, .int .u64 bits, .string ⟨#[]⟩, .int .u64 0] 40) = Ww1 at *
  have eW1 := fun j => cell_of_row Ww1 by1 j _ _ _ fw1
  have zW1 : ∀ j, Ww1.frozen? ⟨by1, j, none⟩ = false := fun j => by simp only [World.frozen?, fw1]; simp
  have cf1 := fun w => refFromFloat_c bits HB.out.1 HB.out.2 w
  rw [← J1.out] at cf1
  go_upto_region 21 with (go_at_call 15; (with_reducible refine (cf1 _).mono ?_); rintro e w' ⟨rfl, hw⟩; (have hw' := hw.symm); subst hw'; clear hw)
  have fx1 := heap_set (c := [.int .i64 3, .int .i64 0, .int .u64 bits, .string ⟨#[]⟩, .int .u64 0]) fw1 2 (.int .u64 (x1 : Nat))
  have fy1 : (Ww1.setCell ⟨by1, 2, none⟩ (.int .u64 (x1 : Nat))).heap[bx1]? = some (.cells #[.int .i64 3, .int .i64 0, .int .u64 (x1 : Nat), .string ⟨#[]⟩, .int .u64 0] 40) := (Below.heap_setCell _ _ _ _ nb1).trans fv1'
  have bz2' : Below Wz1.heap.size Wz1 (Ww1.setCell ⟨by1, 2, none⟩ (.int .u64 (x1 : Nat))) := bw1.setCell (p := ⟨by1, 2, none⟩) (by show Wz1.heap.size ≤ by1; omega) _
  have bz2 := bz1.trans (bz2'.mono bz1.size)
  clear bw1 fw1 fv1' eW1 zW1 cf1 bz2' nb1 zv1 zu1
  generalize Ww1.setCell ⟨by1, 2, none⟩ (.int .u64 (x1 : Nat)) = Wz2 at *
  have eX1 := fun j => cell_of_row Wz2 by1 j _ _ _ fx1
  have eY1 := fun j => cell_of_row Wz2 bx1 j _ _ _ fy1
  clear fx1 fy1
  go_wp2
  clear eX1 eY1
  have er2 := below_cell bz2 cr2g
  have el2 : LRow Wz2 lb (.cells #[.int .i64 2, .int .i64 i, .int .u64 0, .string ⟨#[]⟩, .int .u64 0, .int .i64 3, .int .i64 0, .int .u64 bits, .string ⟨#[]⟩, .int .u64 0, .int .i64 4, .int .i64 0, .int .u64 0, .string s, .int .u64 0] 40) := ⟨Nat.lt_of_lt_of_le fa3.lt bz2.size, (bz2.block _ fa3.lt).trans fa3.out⟩
  have cU2 := cu2.out Wz2 bz2
  rw [rounds_succ]
  go_upto_region 18 with fail
  go_upto_region 19 with (go_at_call 14; (with_reducible refine cU2.mono ?_); rintro e Wu2 ⟨rfl, bu2⟩; clear cU2)
  have bv2 : Below Wz2.heap.size Wz2 (Wu2.alloc (.cells #[.int .i64 4, .int .i64 0, .int .u64 0, .string s, .int .u64 0] 40)) := bu2.alloc bu2.size _
  have fv2 := World.alloc_heap_new Wu2 (.cells #[.int .i64 4, .int .i64 0, .int .u64 0, .string s, .int .u64 0] 40)
  have zu2 : Wz2.heap.size ≤ Wu2.heap.size := bu2.size
  have fl2 : (Wu2.alloc (.cells #[.int .i64 4, .int .i64 0, .int .u64 0, .string s, .int .u64 0] 40)).heap[lb]? = some (.cells #[.int .i64 2, .int .i64 i, .int .u64 0, .string ⟨#[]⟩, .int .u64 0, .int .i64 3, .int .i64 0, .int .u64 bits, .string ⟨#[]⟩, .int .u64 0, .int .i64 4, .int .i64 0, .int .u64 0, .string s, .int .u64 0] 40) := (bv2.block _ el2.lt).trans el2.out
  clear bu2 er2 el2
  generalize Wu2.heap.size = bx2 at *
  generalize Wu2.alloc (.cells #[.int .i64 4, .int .i64 0, .int .u64 0, .string s, .int .u64 0] 40) = Wv2 at *
  have eL2 := fun j => cell_of_row Wv2 lb j _ _ _ fl2
  go_upto_region 20 with fail
  have bw2 : Below Wz2.heap.size Wz2 (Wv2.alloc (.cells #[.int .i64 4, .int .i64 0, .int .u64 0, .string s, .int .u64 0] 40)) := bv2.alloc bv2.size _
  have fw2 := World.alloc_heap_new Wv2 (.cells #[.int .i64 4, .int .i64 0, .int .u64 0, .string s, .int .u64 0] 40)
  have fv2' : (Wv2.alloc (.cells #[.int .i64 4, .int .i64 0, .int .u64 0, .string s, .int .u64 0] 40)).heap[bx2]? = some (.cells #[.int .i64 4, .int .i64 0, .int .u64 0, .string s, .int .u64 0] 40) := (Below.heap_alloc Wv2 _ bx2 (lt_of_get fv2)).trans fv2
  have zv2 := bv2.size
  have nb2 : bx2 ≠ Wv2.heap.size := by have := lt_of_get fv2; omega
  clear eL2 fl2 fv2 bv2
  generalize Wv2.heap.size = by2 at *
  generalize Wv2.alloc (.cells #[.int .i64 4, .int .i64 0, .int .u64 0, .string s, .int .u64 0] 40) = Ww2 at *
  have eW2 := fun j => cell_of_row Ww2 by2 j _ _ _ fw2
  have zW2 : ∀ j, Ww2.frozen? ⟨by2, j, none⟩ = false := fun j => by simp only [World.frozen?, fw2]; simp
  have cf2 := fun w => refFromFloat_c 0 (by omega) (by omega) w
  rw [f00] at cf2
  go_upto_region 21 with (go_at_call 15; (with_reducible refine (cf2 _).mono ?_); rintro e w' ⟨rfl, hw⟩; (have hw' := hw.symm); subst hw'; clear hw)
  have fx2 := heap_set (c := [.int .i64 4, .int .i64 0, .int .u64 0, .string s, .int .u64 0]) fw2 2 (.int .u64 0)
  have fy2 : (Ww2.setCell ⟨by2, 2, none⟩ (.int .u64 0)).heap[bx2]? = some (.cells #[.int .i64 4, .int .i64 0, .int .u64 0, .string s, .int .u64 0] 40) := (Below.heap_setCell _ _ _ _ nb2).trans fv2'
  have bz3' : Below Wz2.heap.size Wz2 (Ww2.setCell ⟨by2, 2, none⟩ (.int .u64 0)) := bw2.setCell (p := ⟨by2, 2, none⟩) (by show Wz2.heap.size ≤ by2; omega) _
  have bz3 := bz2.trans (bz3'.mono bz2.size)
  clear bw2 fw2 fv2' eW2 zW2 cf2 bz3' nb2 zv2 zu2
  generalize Ww2.setCell ⟨by2, 2, none⟩ (.int .u64 0) = Wz3 at *
  have eX2 := fun j => cell_of_row Wz3 by2 j _ _ _ fx2
  have eY2 := fun j => cell_of_row Wz3 bx2 j _ _ _ fy2
  clear fx2 fy2
  go_wp2
  clear eX2 eY2
  rw [rounds_succ]
  go_upto_region 23 with fail
  have cR := hf_reach (QA.out.below' bz3) _ _ (OA.out.below bz3).words
  have RR' : reachN H3 [x0, x1, x2] = sumH H3 := RR.out
  rw [RR', SS.out] at cR
  have aw := fun w => awake7_c w
  have b3 := hid (QA.out.1.trans (bz3.mono QA.out.1.size))
  clear RR' bz3
  have p7 : IntKind.i64.wrap ((s.size : Int) + 7) = (s.size : Int) + 7 := by rw [IntKind.wrap_i64]; omega
  have p8 : IntKind.i64.wrap (((s.size : Int) + 7) / 8) = ((s.size : Int) + 7) / 8 := by rw [IntKind.wrap_i64]; omega
  have p9 : IntKind.i64.wrap (1 + ((s.size : Int) + 7) / 8) = 1 + ((s.size : Int) + 7) / 8 := by rw [IntKind.wrap_i64]; omega
  have p10 : IntKind.i64.wrap (2 + (1 + ((s.size : Int) + 7) / 8)) = 2 + (1 + ((s.size : Int) + 7) / 8) := by rw [IntKind.wrap_i64]; omega
  have p11 : (0 : Int) ≤ (s.size : Int) + 7 := by omega
  by_cases hsm : smallB i = true
  · have hi : -140737488355328 ≤ i ∧ i ≤ 140737488355327 := by simpa [smallB] using hsm
    have k1 : ¬ i < -140737488355328 := by omega
    have k2 : ¬ i ≥ 140737488355328 := by omega
    clear hi
    by_cases hsz : s.size ≤ 5
    · have eN : ((nI i + nT s : Nat) : Int) = 0 := by
        have e1 : nI i = 0 := by unfold nI; rw [if_pos hsm]
        have e2 : nT s = 0 := by unfold nT; rw [if_pos hsz]
        rw [e1, e2]; omega
      rw [eN] at cR
      have g5 : ¬ (s.size : Int) > 5 := by omega
      clear eN hsz hsm
      go_wp2_with (first | (go_at_call 10; (with_reducible refine cR.mono ?_); rintro e Wr ⟨rfl, br⟩; clear cR) | (go_at_call 16; (with_reducible refine (aw _).mono ?_); rintro e Wt ⟨rfl, bt⟩; clear aw))
      go_ret
      have br' := br.trans (bt.mono br.size)
      exact ⟨rfl, b3.out.trans (br'.mono b3.out.size)⟩
    · have eN : ((nI i + nT s : Nat) : Int) = 1 + ((s.size : Int) + 7) / 8 := by
        have e1 : nI i = 0 := by unfold nI; rw [if_pos hsm]
        have e2 : nT s = (1 + (s.size + 7) / 8) := by unfold nT; rw [if_neg hsz]; rfl
        rw [e1, e2]; omega
      rw [eN] at cR
      have g5 : (s.size : Int) > 5 := by omega
      clear eN hsz hsm
      go_wp2_with (first | (go_at_call 10; (with_reducible refine cR.mono ?_); rintro e Wr ⟨rfl, br⟩; clear cR) | (go_at_call 16; (with_reducible refine (aw _).mono ?_); rintro e Wt ⟨rfl, bt⟩; clear aw))
      go_ret
      have br' := br.trans (bt.mono br.size)
      exact ⟨rfl, b3.out.trans (br'.mono b3.out.size)⟩
  · have hi : ¬ (-140737488355328 ≤ i ∧ i ≤ 140737488355327) := by simpa [smallB] using hsm
    by_cases k1 : i < -140737488355328
    · clear hi
      by_cases hsz : s.size ≤ 5
      · have eN : ((nI i + nT s : Nat) : Int) = 2 := by
          have e1 : nI i = 2 := by unfold nI; rw [if_neg hsm]
          have e2 : nT s = 0 := by unfold nT; rw [if_pos hsz]
          rw [e1, e2]; omega
        rw [eN] at cR
        have g5 : ¬ (s.size : Int) > 5 := by omega
        clear eN hsz hsm
        go_wp2_with (first | (go_at_call 10; (with_reducible refine cR.mono ?_); rintro e Wr ⟨rfl, br⟩; clear cR) | (go_at_call 16; (with_reducible refine (aw _).mono ?_); rintro e Wt ⟨rfl, bt⟩; clear aw))
        go_ret
        have br' := br.trans (bt.mono br.size)
        exact ⟨rfl, b3.out.trans (br'.mono b3.out.size)⟩
      · have eN : ((nI i + nT s : Nat) : Int) = 2 + (1 + ((s.size : Int) + 7) / 8) := by
          have e1 : nI i = 2 := by unfold nI; rw [if_neg hsm]
          have e2 : nT s = (1 + (s.size + 7) / 8) := by unfold nT; rw [if_neg hsz]; rfl
          rw [e1, e2]; omega
        rw [eN] at cR
        have g5 : (s.size : Int) > 5 := by omega
        clear eN hsz hsm
        go_wp2_with (first | (go_at_call 10; (with_reducible refine cR.mono ?_); rintro e Wr ⟨rfl, br⟩; clear cR) | (go_at_call 16; (with_reducible refine (aw _).mono ?_); rintro e Wt ⟨rfl, bt⟩; clear aw))
        go_ret
        have br' := br.trans (bt.mono br.size)
        exact ⟨rfl, b3.out.trans (br'.mono b3.out.size)⟩
    · have k2 : i ≥ 140737488355328 := by omega
      clear hi
      by_cases hsz : s.size ≤ 5
      · have eN : ((nI i + nT s : Nat) : Int) = 2 := by
          have e1 : nI i = 2 := by unfold nI; rw [if_neg hsm]
          have e2 : nT s = 0 := by unfold nT; rw [if_pos hsz]
          rw [e1, e2]; omega
        rw [eN] at cR
        have g5 : ¬ (s.size : Int) > 5 := by omega
        clear eN hsz hsm
        go_wp2_with (first | (go_at_call 10; (with_reducible refine cR.mono ?_); rintro e Wr ⟨rfl, br⟩; clear cR) | (go_at_call 16; (with_reducible refine (aw _).mono ?_); rintro e Wt ⟨rfl, bt⟩; clear aw))
        go_ret
        have br' := br.trans (bt.mono br.size)
        exact ⟨rfl, b3.out.trans (br'.mono b3.out.size)⟩
      · have eN : ((nI i + nT s : Nat) : Int) = 2 + (1 + ((s.size : Int) + 7) / 8) := by
          have e1 : nI i = 2 := by unfold nI; rw [if_neg hsm]
          have e2 : nT s = (1 + (s.size + 7) / 8) := by unfold nT; rw [if_neg hsz]; rfl
          rw [e1, e2]; omega
        rw [eN] at cR
        have g5 : (s.size : Int) > 5 := by omega
        clear eN hsz hsm
        go_wp2_with (first | (go_at_call 10; (with_reducible refine cR.mono ?_); rintro e Wr ⟨rfl, br⟩; clear cR) | (go_at_call 16; (with_reducible refine (aw _).mono ?_); rintro e Wt ⟨rfl, bt⟩; clear aw))
        go_ret
        have br' := br.trans (bt.mono br.size)
        exact ⟨rfl, b3.out.trans (br'.mono b3.out.size)⟩
set_option maxRecDepth 100000 in
theorem valueBack_walk (i : Int) (wi : (Lit.int .i64 i).wf = true) (b : Int) (wb : (Lit.int .u64 b).wf = true) (s : ByteArray) (h : s.size ≤ maxLen) (W : World) : Calls Try.prog 4 #[.int .i64 i, .int .u64 b, .string s] W fun e w' => e = .returned (.bool true) ∧ Below W.heap.size W w' := by
  by_cases c : s.size ≤ 3000
  · have hi : -9223372036854775808 ≤ i ∧ i ≤ 9223372036854775807 := by
      simp [Lit.wf] at wi
      have e1 : IntKind.i64.min = -9223372036854775808 := by decide
      have e2 : IntKind.i64.max = 9223372036854775807 := by decide
      omega
    have hbi : 0 ≤ b ∧ b < 18446744073709551616 := by
      simp [Lit.wf] at wb
      have e1 : IntKind.u64.min = 0 := by decide
      have e2 : IntKind.u64.max = 18446744073709551615 := by decide
      omega
    exact back_core i b s hi.1 hi.2 hbi.1 hbi.2 c W
  · have g1 : (s.size : Int) > 3000 := by omega
    clear h c wi wb
    go_enter Try.func4, Try.ntmps4
    go_wp2
    go_ret
    exact ⟨rfl, Below.refl _ _⟩
end Go.Proofs.Ytaebnnkhjlidiab.W
