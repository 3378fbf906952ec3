import Derived.Test.YtgmimmdojkoppaaGreatDoorO3dJ
import Derived.Test.YtgmimmdojkoppaaGreatDoorO3eJ
/- Package ops: plus; operators as functions; Binary and Unary over their jobs. -/
namespace Go.Proofs.YtgmimmdojkoppaaGreatDoor.W.Nu
open Go.ChangeShapes Go.WideShapes Go.RowKit Go.Shelf
set_option linter.unusedVariables false
theorem fn_eql (kf : Nat) (cs : Array Value) (w : World) : (binOp .eql 50 (.func (.func kf) #[] cs) .nilFunc).run Tryz.prog w = .ok (.bool false) w := by kernel_rfl
theorem fn_neq (kf : Nat) (cs : Array Value) (w : World) : (binOp .neq 50 (.func (.func kf) #[] cs) .nilFunc).run Tryz.prog w = .ok (.bool true) w := by kernel_rfl
theorem eg_reckons1 : ∀ args w, (callFunc 97 args).run Tryz.prog w = .ok (.enter 97 args) w := enters_of Tryz.func97 (by kernel_rfl) rfl
theorem eg_joins1 : ∀ args w, (callFunc 163 args).run Tryz.prog w = .ok (.enter 163 args) w := enters_of Tryz.func163 (by kernel_rfl) rfl
theorem eg_plus : ∀ args w, (callFunc 51 args).run Tryz.prog w = .ok (.enter 51 args) w := enters_of Tryz.func51 (by kernel_rfl) rfl
theorem eg_character : ∀ args w, (callFunc 36 args).run Tryz.prog w = .ok (.enter 36 args) w := enters_of Tryz.func36 (by kernel_rfl) rfl
section
variable {W : World} {hb vb : Nat} {vw vr : Value} {R : Ending → World → Prop}
set_option maxRecDepth 100000 in
theorem plus_g (k0 i0 b0 r0 k1 i1 b1 r1 : Int) (s0 s1 : ByteArray) (hk : ((k0 == 4) && (k1 == 4)) = false) (hv : ∀ k, W.cell? ⟨vb, k, none⟩ = #[.int .i64 k0, .int .i64 i0, .int .u64 b0, .string s0, .int .u64 r0, .int .i64 k1, .int .i64 i1, .int .u64 b1, .string s1, .int .u64 r1][k]?)
    (cr : ∀ (w' : World) (cp : Nat), Below W.heap.size W w' → w'.cell? ⟨cp, 0, none⟩ = some (.func (.func 96) #[] #[]) → Calls Tryz.prog 97 #[.agg #[.pointer (some ⟨hb, 0, none⟩), vw, .slice (some ⟨vb, 0, none⟩) 2 2, vr], .pointer (some ⟨cp, 0, none⟩)] w' R) (two : ∀ e w', R e w' → ∃ x y, e = .returned (.tuple #[.int .u64 x, .int .i64 y])) :
    Calls Tryz.prog 51 #[.agg #[.pointer (some ⟨hb, 0, none⟩), vw, .slice (some ⟨vb, 0, none⟩) 2 2, vr]] W R := by
  have hB1 : Below W.heap.size W (W.alloc (.cells #[.pointer (some ⟨hb, 0, none⟩), vw, .slice (some ⟨vb, 0, none⟩) 2 2, vr] 83)) := (Below.refl _ W).alloc (Nat.le_refl _) _
  have e1 := World.cell?_alloc_new W #[.pointer (some ⟨hb, 0, none⟩), vw, .slice (some ⟨vb, 0, none⟩) 2 2, vr] 83
  have vl : vb < W.heap.size := cell_lt (hv 0)
  have T := hid two
  have er := eg_reckons1
  clear two
  go_enter Tryz.func51, Tryz.ntmps51
  go_upto_region 1 with fail
  generalize W.alloc (.cells #[.pointer (some ⟨hb, 0, none⟩), vw, .slice (some ⟨vb, 0, none⟩) 2 2, vr] 83) = W1 at *
  have hv1 : ∀ k, W1.cell? ⟨vb, k, none⟩ = #[.int .i64 k0, .int .i64 i0, .int .u64 b0, .string s0, .int .u64 r0, .int .i64 k1, .int .i64 i1, .int .u64 b1, .string s1, .int .u64 r1][k]? := fun k => by rw [hB1.cell (p := ⟨vb, k, none⟩) vl]; exact hv k
  have hB2 : Below W1.heap.size W1 (W1.alloc (.cells #[.int .i64 0, .int .i64 1] 3)) := (Below.refl _ W1).alloc (Nat.le_refl _) _
  have e2 := World.cell?_alloc_new W1 #[.int .i64 0, .int .i64 1] 3
  have cA := are2_c (W1.alloc (.cells #[.int .i64 0, .int .i64 1] 3)) hb vb W1.heap.size 2 vw vr 4 k0 k1 (by decide) (by decide) (e2 0) (e2 1) (cell_keep hB2 (hv1 0)) (cell_keep hB2 (hv1 5))
  rw [hk] at cA
  clear e2 hv hv1 hk vl
  have l1 : W.heap.size < W1.heap.size := cell_lt (e1 0)
  have H2 := hid hB2
  have H1 := hid hB1
  clear hB2 hB1
  go_upto_region 3 with (go_at_call 70; (with_reducible refine cA.mono ?_); rintro e W2 ⟨rfl, hB3⟩; clear cA)
  have hB4 := H2.out.trans (hB3.mono H2.out.size)
  have eC : ∀ k, W2.cell? ⟨W.heap.size, k, none⟩ = #[.pointer (some ⟨hb, 0, none⟩), vw, .slice (some ⟨vb, 0, none⟩) 2 2, vr][k]? := fun k => by rw [hB4.cell (p := ⟨W.heap.size, k, none⟩) l1]; exact e1 k
  have H4 := hid (H1.out.trans (hB4.mono H1.out.size))
  have l2 : W.heap.size < W2.heap.size := by have := hB4.size; omega
  clear hB3 hB4 e1 H1 H2
  have cq : Calls Tryz.prog 52 #[.func (.func 96) #[] #[]] W2.drew fun e w' => e = .returned (.func (.func 97) #[] #[.pointer (some ⟨W2.heap.size, 0, none⟩)]) ∧ w'.cell? ⟨W2.heap.size, 0, none⟩ = some (.func (.func 96) #[] #[]) ∧ Below W2.drew.heap.size W2.drew w' := reckons_c 96 W2.drew
  have K2 : ∀ w', Below W2.drew.heap.size W2.drew w' → (∀ k, w'.cell? ⟨W.heap.size, k, none⟩ = #[.pointer (some ⟨hb, 0, none⟩), vw, .slice (some ⟨vb, 0, none⟩) 2 2, vr][k]?) ∧ (∀ cp, w'.cell? ⟨cp, 0, none⟩ = some (.func (.func 96) #[] #[]) → Calls Tryz.prog 97 #[.agg #[.pointer (some ⟨hb, 0, none⟩), vw, .slice (some ⟨vb, 0, none⟩) 2 2, vr], .pointer (some ⟨cp, 0, none⟩)] w' R) := by
    intro w' hB
    exact ⟨fun k => by rw [hB.cell (p := ⟨W.heap.size, k, none⟩) l2]; exact eC k, fun cp hc => cr w' cp (H4.out.trans ((show Below W2.heap.size W2 w' from ⟨hB.os, hB.tape, hB.output, hB.size, hB.block⟩).mono H4.out.size)) hc⟩
  have HK := hid K2
  clear K2 cr
  go_region_with (first | (go_at_call 52; (with_reducible refine cq.mono ?_); rintro e W3 ⟨rfl, hcp, hB5⟩; (obtain ⟨eD, cz⟩ := HK.out W3 hB5); (replace cz := cz _ hcp); clear cq hcp hB5) | (go_at_call 97; (with_reducible refine cz.mono ?_); intro e w3 h3; (obtain ⟨x, y, rfl⟩ := T.out e w3 h3); clear cz))
  all_goals (
    simp only [Act.put, List.getElem_toArray, List.getElem_cons_zero, List.getElem_cons_succ, List.setIfInBounds_toArray, List.set_cons_zero, List.set_cons_succ]
    go_wp2
    exact h3)
end
set_option maxRecDepth 100000 in
theorem bitwise_and (W : World) : Calls Tryz.prog 59 #[.string ⟨#[38]⟩] W fun e w' => ∃ cp, e = .returned (.func (.func 163) #[] #[.pointer (some ⟨cp, 0, none⟩)]) ∧ w'.cell? ⟨cp, 0, none⟩ = some (.func (.func 114) #[] #[]) ∧ Below W.heap.size W w' := by
  go_enter Tryz.func59, Tryz.ntmps59
  go_wp2_with (go_at_call 113; (with_reducible refine (joins_c _ _).mono ?_); rintro e w2 ⟨rfl, h⟩)
  go_ret
  exact ⟨_, rfl, h⟩
set_option maxRecDepth 100000 in
theorem binary_and (W : World) : Calls Tryz.prog 21 #[.string ⟨#[38]⟩] W fun e w' => ∃ cp, e = .returned (.func (.func 163) #[] #[.pointer (some ⟨cp, 0, none⟩)]) ∧ w'.cell? ⟨cp, 0, none⟩ = some (.func (.func 114) #[] #[]) ∧ Below W.heap.size W w' := by
  have hne := fn_neq
  go_enter Tryz.func21, Tryz.ntmps21
  go_wp2_with (go_at_call 59; (with_reducible refine (bitwise_and _).mono ?_); rintro e w2 ⟨cp, rfl, h⟩)
  go_ret
  exact ⟨_, rfl, h⟩
set_option maxRecDepth 100000 in
theorem bitwise_or (W : World) : Calls Tryz.prog 59 #[.string ⟨#[124]⟩] W fun e w' => ∃ cp, e = .returned (.func (.func 163) #[] #[.pointer (some ⟨cp, 0, none⟩)]) ∧ w'.cell? ⟨cp, 0, none⟩ = some (.func (.func 115) #[] #[]) ∧ Below W.heap.size W w' := by
  go_enter Tryz.func59, Tryz.ntmps59
  go_wp2_with (go_at_call 113; (with_reducible refine (joins_c _ _).mono ?_); rintro e w2 ⟨rfl, h⟩)
  go_ret
  exact ⟨_, rfl, h⟩
set_option maxRecDepth 100000 in
theorem binary_or (W : World) : Calls Tryz.prog 21 #[.string ⟨#[124]⟩] W fun e w' => ∃ cp, e = .returned (.func (.func 163) #[] #[.pointer (some ⟨cp, 0, none⟩)]) ∧ w'.cell? ⟨cp, 0, none⟩ = some (.func (.func 115) #[] #[]) ∧ Below W.heap.size W w' := by
  have hne := fn_neq
  go_enter Tryz.func21, Tryz.ntmps21
  go_wp2_with (go_at_call 59; (with_reducible refine (bitwise_or _).mono ?_); rintro e w2 ⟨cp, rfl, h⟩)
  go_ret
  exact ⟨_, rfl, h⟩
set_option maxRecDepth 100000 in
theorem bitwise_xor (W : World) : Calls Tryz.prog 59 #[.string ⟨#[94]⟩] W fun e w' => ∃ cp, e = .returned (.func (.func 163) #[] #[.pointer (some ⟨cp, 0, none⟩)]) ∧ w'.cell? ⟨cp, 0, none⟩ = some (.func (.func 116) #[] #[]) ∧ Below W.heap.size W w' := by
  go_enter Tryz.func59, Tryz.ntmps59
  go_wp2_with (go_at_call 113; (with_reducible refine (joins_c _ _).mono ?_); rintro e w2 ⟨rfl, h⟩)
  go_ret
  exact ⟨_, rfl, h⟩
set_option maxRecDepth 100000 in
theorem binary_xor (W : World) : Calls Tryz.prog 21 #[.string ⟨#[94]⟩] W fun e w' => ∃ cp, e = .returned (.func (.func 163) #[] #[.pointer (some ⟨cp, 0, none⟩)]) ∧ w'.cell? ⟨cp, 0, none⟩ = some (.func (.func 116) #[] #[]) ∧ Below W.heap.size W w' := by
  have hne := fn_neq
  go_enter Tryz.func21, Tryz.ntmps21
  go_wp2_with (go_at_call 59; (with_reducible refine (bitwise_xor _).mono ?_); rintro e w2 ⟨cp, rfl, h⟩)
  go_ret
  exact ⟨_, rfl, h⟩
theorem binary_plus (W : World) : Calls Tryz.prog 21 #[.string ⟨#[43]⟩] W fun e w' => e = .returned (.func (.func 51) #[] #[]) ∧ Below W.heap.size W w' := by
  have hne := fn_neq
  go_enter Tryz.func21, Tryz.ntmps21
  go_wp2
  go_ret
  exact ⟨rfl, Below.refl _ _⟩
end Go.Proofs.YtgmimmdojkoppaaGreatDoor.W.Nu
