/- The reference of package site: On, one theorem a way through it. (Made by wip/tools/r14/gen_si4.py.) -/
import Derived.Test.YtalcfblknoojpaaSi3
namespace Go.Proofs.Ytalcfblknoojpaa.W.Si
open Go.ChangeShapes Go.WideShapes Go.RowKit
set_option linter.unusedVariables false
set_option maxHeartbeats 1000000 in
theorem ref_fast1 {W : World} {rb : Nat} {a F G A L K R q : Int} (h0 : Sv W 29 rb a F G A L K R) (hq : q = 1) (hF : F = 1)  (g0 : 0 ≤ G) (g1 : G ≤ 1000000000) (a0 : 0 ≤ A) (a1 : A ≤ 1000000000) (l0 : 0 ≤ L) (l1 : L ≤ 1000000000) : Calls Try.prog 11 #[.pointer (some ⟨rb, 0, none⟩), .int .i64 q] W fun e w' => e = .returned (.int .i64 (1)) ∧ Sv w' 29 rb a F G (A + 1) L K R ∧ Upd (· = rb) W w' := by
  have c := h0.cells
  have z := h0.thaw
  have wG : IntKind.i64.wrap (G + 1) = G + 1 := by rw [IntKind.wrap_i64]; omega
  have wA : IntKind.i64.wrap (A + 1) = A + 1 := by rw [IntKind.wrap_i64]; omega
  have wL : IntKind.i64.wrap (L + 1) = L + 1 := by rw [IntKind.wrap_i64]; omega
  have u0 := Upd.refl (· = rb) W
  subst hq
  subst hF
  clear g0 g1 a0 a1 l0 l1
  go_enter Try.func11, Try.ntmps11
  go_upto_region 5 with fail
  have h1 := h0.set3 (A + 1)
  have u1 := u0.one 3 (.int .i64 (A + 1))
  generalize World.setCell W _ _ = W1 at *
  clear c z h0 u0
  have c := h1.cells
  have z := h1.thaw
  have HH := hid h1
  have HU := hid u1
  clear h1 u1
  go_wp2
  go_ret
  exact ⟨rfl, HH.out, HU.out⟩
set_option maxHeartbeats 1000000 in
theorem ref_turn1 {W : World} {rb : Nat} {a F G A L K R q : Int} (h0 : Sv W 29 rb a F G A L K R) (hq : q = 1) (hF : F = 0) (hK : K = 1) (hR : R = 2) (hL : L < 4) (g0 : 0 ≤ G) (g1 : G ≤ 1000000000) (a0 : 0 ≤ A) (a1 : A ≤ 1000000000) (l0 : 0 ≤ L) (l1 : L ≤ 1000000000) : Calls Try.prog 11 #[.pointer (some ⟨rb, 0, none⟩), .int .i64 q] W fun e w' => e = .returned (.int .i64 (0)) ∧ Sv w' 29 rb a 1 (G + 1) A L K 0 ∧ Upd (· = rb) W w' := by
  have c := h0.cells
  have z := h0.thaw
  have wG : IntKind.i64.wrap (G + 1) = G + 1 := by rw [IntKind.wrap_i64]; omega
  have wA : IntKind.i64.wrap (A + 1) = A + 1 := by rw [IntKind.wrap_i64]; omega
  have wL : IntKind.i64.wrap (L + 1) = L + 1 := by rw [IntKind.wrap_i64]; omega
  have u0 := Upd.refl (· = rb) W
  subst hq
  subst hF
  subst hK
  subst hR
  clear g0 g1 a0 a1 l0 l1
  go_enter Try.func11, Try.ntmps11
  go_upto_region 11 with fail
  have h1 := h0.set2 (G + 1)
  have u1 := u0.one 2 (.int .i64 (G + 1))
  generalize World.setCell W _ _ = W1 at *
  clear c z h0 u0
  have c := h1.cells
  have z := h1.thaw
  go_upto_region 18 with fail
  have h2 := h1.set6 (3)
  have u2 := u1.one 6 (.int .i64 (3))
  generalize World.setCell W1 _ _ = W2 at *
  clear c z h1 u1
  have c := h2.cells
  have z := h2.thaw
  go_upto_region 20 with fail
  have h3 := h2.set1 (1)
  have u3 := u2.one 1 (.int .i64 (1))
  generalize World.setCell W2 _ _ = W3 at *
  clear c z h2 u2
  have c := h3.cells
  have z := h3.thaw
  go_upto_region 21 with fail
  have h4 := h3.set6 (0)
  have u4 := u3.one 6 (.int .i64 (0))
  generalize World.setCell W3 _ _ = W4 at *
  clear c z h3 u3
  have c := h4.cells
  have z := h4.thaw
  have HH := hid h4
  have HU := hid u4
  clear h4 u4
  go_wp2
  go_ret
  exact ⟨rfl, HH.out, HU.out⟩
set_option maxHeartbeats 1000000 in
theorem ref_full1 {W : World} {rb : Nat} {a F G A L K R q : Int} (h0 : Sv W 29 rb a F G A L K R) (hq : q = 1) (hF : F = 0) (hK : K = 1) (hR : R = 2) (hL : ¬ L < 4) (g0 : 0 ≤ G) (g1 : G ≤ 1000000000) (a0 : 0 ≤ A) (a1 : A ≤ 1000000000) (l0 : 0 ≤ L) (l1 : L ≤ 1000000000) : Calls Try.prog 11 #[.pointer (some ⟨rb, 0, none⟩), .int .i64 q] W fun e w' => e = .returned (.int .i64 (0)) ∧ Sv w' 29 rb a F (G + 1) A L K 3 ∧ Upd (· = rb) W w' := by
  have c := h0.cells
  have z := h0.thaw
  have wG : IntKind.i64.wrap (G + 1) = G + 1 := by rw [IntKind.wrap_i64]; omega
  have wA : IntKind.i64.wrap (A + 1) = A + 1 := by rw [IntKind.wrap_i64]; omega
  have wL : IntKind.i64.wrap (L + 1) = L + 1 := by rw [IntKind.wrap_i64]; omega
  have u0 := Upd.refl (· = rb) W
  subst hq
  subst hF
  subst hK
  subst hR
  clear g0 g1 a0 a1 l0 l1
  go_enter Try.func11, Try.ntmps11
  go_upto_region 11 with fail
  have h1 := h0.set2 (G + 1)
  have u1 := u0.one 2 (.int .i64 (G + 1))
  generalize World.setCell W _ _ = W1 at *
  clear c z h0 u0
  have c := h1.cells
  have z := h1.thaw
  go_upto_region 18 with fail
  have h2 := h1.set6 (3)
  have u2 := u1.one 6 (.int .i64 (3))
  generalize World.setCell W1 _ _ = W2 at *
  clear c z h1 u1
  have c := h2.cells
  have z := h2.thaw
  have HH := hid h2
  have HU := hid u2
  clear h2 u2
  go_wp2
  go_ret
  exact ⟨rfl, HH.out, HU.out⟩
set_option maxHeartbeats 1000000 in
theorem ref_one1 {W : World} {rb : Nat} {a F G A L K R q : Int} (h0 : Sv W 29 rb a F G A L K R) (hq : q = 1) (hF : F = 0) (hK : K = 1) (hR : R = 1)  (g0 : 0 ≤ G) (g1 : G ≤ 1000000000) (a0 : 0 ≤ A) (a1 : A ≤ 1000000000) (l0 : 0 ≤ L) (l1 : L ≤ 1000000000) : Calls Try.prog 11 #[.pointer (some ⟨rb, 0, none⟩), .int .i64 q] W fun e w' => e = .returned (.int .i64 (0)) ∧ Sv w' 29 rb a F (G + 1) A L K 2 ∧ Upd (· = rb) W w' := by
  have c := h0.cells
  have z := h0.thaw
  have wG : IntKind.i64.wrap (G + 1) = G + 1 := by rw [IntKind.wrap_i64]; omega
  have wA : IntKind.i64.wrap (A + 1) = A + 1 := by rw [IntKind.wrap_i64]; omega
  have wL : IntKind.i64.wrap (L + 1) = L + 1 := by rw [IntKind.wrap_i64]; omega
  have u0 := Upd.refl (· = rb) W
  subst hq
  subst hF
  subst hK
  subst hR
  clear g0 g1 a0 a1 l0 l1
  go_enter Try.func11, Try.ntmps11
  go_upto_region 11 with fail
  have h1 := h0.set2 (G + 1)
  have u1 := u0.one 2 (.int .i64 (G + 1))
  generalize World.setCell W _ _ = W1 at *
  clear c z h0 u0
  have c := h1.cells
  have z := h1.thaw
  go_upto_region 18 with fail
  have h2 := h1.set6 (2)
  have u2 := u1.one 6 (.int .i64 (2))
  generalize World.setCell W1 _ _ = W2 at *
  clear c z h1 u1
  have c := h2.cells
  have z := h2.thaw
  have HH := hid h2
  have HU := hid u2
  clear h2 u2
  go_wp2
  go_ret
  exact ⟨rfl, HH.out, HU.out⟩
set_option maxHeartbeats 1000000 in
theorem ref_three1 {W : World} {rb : Nat} {a F G A L K R q : Int} (h0 : Sv W 29 rb a F G A L K R) (hq : q = 1) (hF : F = 0) (hK : K = 1) (hR : R = 3) (hL : ¬ L < 4) (g0 : 0 ≤ G) (g1 : G ≤ 1000000000) (a0 : 0 ≤ A) (a1 : A ≤ 1000000000) (l0 : 0 ≤ L) (l1 : L ≤ 1000000000) : Calls Try.prog 11 #[.pointer (some ⟨rb, 0, none⟩), .int .i64 q] W fun e w' => e = .returned (.int .i64 (0)) ∧ Sv w' 29 rb a F (G + 1) A L K R ∧ Upd (· = rb) W w' := by
  have c := h0.cells
  have z := h0.thaw
  have wG : IntKind.i64.wrap (G + 1) = G + 1 := by rw [IntKind.wrap_i64]; omega
  have wA : IntKind.i64.wrap (A + 1) = A + 1 := by rw [IntKind.wrap_i64]; omega
  have wL : IntKind.i64.wrap (L + 1) = L + 1 := by rw [IntKind.wrap_i64]; omega
  have u0 := Upd.refl (· = rb) W
  subst hq
  subst hF
  subst hK
  subst hR
  clear g0 g1 a0 a1 l0 l1
  go_enter Try.func11, Try.ntmps11
  go_upto_region 11 with fail
  have h1 := h0.set2 (G + 1)
  have u1 := u0.one 2 (.int .i64 (G + 1))
  generalize World.setCell W _ _ = W1 at *
  clear c z h0 u0
  have c := h1.cells
  have z := h1.thaw
  have HH := hid h1
  have HU := hid u1
  clear h1 u1
  go_wp2
  go_ret
  exact ⟨rfl, HH.out, HU.out⟩
set_option maxHeartbeats 1000000 in
theorem ref_none1 {W : World} {rb : Nat} {a F G A L K R q : Int} (h0 : Sv W 29 rb a F G A L K R) (hq : q = 1) (hF : F = 0) (hR : R = 0)  (g0 : 0 ≤ G) (g1 : G ≤ 1000000000) (a0 : 0 ≤ A) (a1 : A ≤ 1000000000) (l0 : 0 ≤ L) (l1 : L ≤ 1000000000) : Calls Try.prog 11 #[.pointer (some ⟨rb, 0, none⟩), .int .i64 q] W fun e w' => e = .returned (.int .i64 (0)) ∧ Sv w' 29 rb a F (G + 1) A L 1 1 ∧ Upd (· = rb) W w' := by
  have c := h0.cells
  have z := h0.thaw
  have wG : IntKind.i64.wrap (G + 1) = G + 1 := by rw [IntKind.wrap_i64]; omega
  have wA : IntKind.i64.wrap (A + 1) = A + 1 := by rw [IntKind.wrap_i64]; omega
  have wL : IntKind.i64.wrap (L + 1) = L + 1 := by rw [IntKind.wrap_i64]; omega
  have u0 := Upd.refl (· = rb) W
  subst hq
  subst hF
  subst hR
  clear g0 g1 a0 a1 l0 l1
  go_enter Try.func11, Try.ntmps11
  go_upto_region 11 with fail
  have h1 := h0.set2 (G + 1)
  have u1 := u0.one 2 (.int .i64 (G + 1))
  generalize World.setCell W _ _ = W1 at *
  clear c z h0 u0
  have c := h1.cells
  have z := h1.thaw
  go_upto_region 17 with fail
  have h2 := h1.set5 (1)
  have u2 := u1.one 5 (.int .i64 (1))
  generalize World.setCell W1 _ _ = W2 at *
  clear c z h1 u1
  have c := h2.cells
  have z := h2.thaw
  go_upto_region 18 with fail
  have h3 := h2.set6 (1)
  have u3 := u2.one 6 (.int .i64 (1))
  generalize World.setCell W2 _ _ = W3 at *
  clear c z h2 u2
  have c := h3.cells
  have z := h3.thaw
  have HH := hid h3
  have HU := hid u3
  clear h3 u3
  go_wp2
  go_ret
  exact ⟨rfl, HH.out, HU.out⟩
set_option maxHeartbeats 1000000 in
theorem ref_other1 {W : World} {rb : Nat} {a F G A L K R q : Int} (h0 : Sv W 29 rb a F G A L K R) (hq : q = 1) (hF : F = 0) (hR : R > 0) (hK : (K == 1) = false) (g0 : 0 ≤ G) (g1 : G ≤ 1000000000) (a0 : 0 ≤ A) (a1 : A ≤ 1000000000) (l0 : 0 ≤ L) (l1 : L ≤ 1000000000) : Calls Try.prog 11 #[.pointer (some ⟨rb, 0, none⟩), .int .i64 q] W fun e w' => e = .returned (.int .i64 (0)) ∧ Sv w' 29 rb a F (G + 1) A L 1 1 ∧ Upd (· = rb) W w' := by
  have c := h0.cells
  have z := h0.thaw
  have wG : IntKind.i64.wrap (G + 1) = G + 1 := by rw [IntKind.wrap_i64]; omega
  have wA : IntKind.i64.wrap (A + 1) = A + 1 := by rw [IntKind.wrap_i64]; omega
  have wL : IntKind.i64.wrap (L + 1) = L + 1 := by rw [IntKind.wrap_i64]; omega
  have u0 := Upd.refl (· = rb) W
  subst hq
  subst hF
  clear g0 g1 a0 a1 l0 l1
  go_enter Try.func11, Try.ntmps11
  go_upto_region 11 with fail
  have h1 := h0.set2 (G + 1)
  have u1 := u0.one 2 (.int .i64 (G + 1))
  generalize World.setCell W _ _ = W1 at *
  clear c z h0 u0
  have c := h1.cells
  have z := h1.thaw
  go_upto_region 17 with fail
  have h2 := h1.set5 (1)
  have u2 := u1.one 5 (.int .i64 (1))
  generalize World.setCell W1 _ _ = W2 at *
  clear c z h1 u1
  have c := h2.cells
  have z := h2.thaw
  go_upto_region 18 with fail
  have h3 := h2.set6 (1)
  have u3 := u2.one 6 (.int .i64 (1))
  generalize World.setCell W2 _ _ = W3 at *
  clear c z h2 u2
  have c := h3.cells
  have z := h3.thaw
  have HH := hid h3
  have HU := hid u3
  clear h3 u3
  go_wp2
  go_ret
  exact ⟨rfl, HH.out, HU.out⟩
set_option maxHeartbeats 1000000 in
theorem ref_fail1 {W : World} {rb : Nat} {a F G A L K R q : Int} (h0 : Sv W 29 rb a F G A L K R) (hq : q = 1) (hF : F = 2)  (g0 : 0 ≤ G) (g1 : G ≤ 1000000000) (a0 : 0 ≤ A) (a1 : A ≤ 1000000000) (l0 : 0 ≤ L) (l1 : L ≤ 1000000000) : Calls Try.prog 11 #[.pointer (some ⟨rb, 0, none⟩), .int .i64 q] W fun e w' => e = .returned (.int .i64 (0)) ∧ Sv w' 29 rb a 0 (G + 1) A (L + 1) 1 1 ∧ Upd (· = rb) W w' := by
  have c := h0.cells
  have z := h0.thaw
  have wG : IntKind.i64.wrap (G + 1) = G + 1 := by rw [IntKind.wrap_i64]; omega
  have wA : IntKind.i64.wrap (A + 1) = A + 1 := by rw [IntKind.wrap_i64]; omega
  have wL : IntKind.i64.wrap (L + 1) = L + 1 := by rw [IntKind.wrap_i64]; omega
  have u0 := Upd.refl (· = rb) W
  subst hq
  subst hF
  clear g0 g1 a0 a1 l0 l1
  go_enter Try.func11, Try.ntmps11
  go_upto_region 8 with fail
  have h1 := h0.set4 (L + 1)
  have u1 := u0.one 4 (.int .i64 (L + 1))
  generalize World.setCell W _ _ = W1 at *
  clear c z h0 u0
  have c := h1.cells
  have z := h1.thaw
  go_upto_region 9 with fail
  have h2 := h1.set1 (0)
  have u2 := u1.one 1 (.int .i64 (0))
  generalize World.setCell W1 _ _ = W2 at *
  clear c z h1 u1
  have c := h2.cells
  have z := h2.thaw
  go_upto_region 10 with fail
  have h3 := h2.set6 (0)
  have u3 := u2.one 6 (.int .i64 (0))
  generalize World.setCell W2 _ _ = W3 at *
  clear c z h2 u2
  have c := h3.cells
  have z := h3.thaw
  go_upto_region 11 with fail
  have h4 := h3.set2 (G + 1)
  have u4 := u3.one 2 (.int .i64 (G + 1))
  generalize World.setCell W3 _ _ = W4 at *
  clear c z h3 u3
  have c := h4.cells
  have z := h4.thaw
  go_upto_region 17 with fail
  have h5 := h4.set5 (1)
  have u5 := u4.one 5 (.int .i64 (1))
  generalize World.setCell W4 _ _ = W5 at *
  clear c z h4 u4
  have c := h5.cells
  have z := h5.thaw
  go_upto_region 18 with fail
  have h6 := h5.set6 (1)
  have u6 := u5.one 6 (.int .i64 (1))
  generalize World.setCell W5 _ _ = W6 at *
  clear c z h5 u5
  have c := h6.cells
  have z := h6.thaw
  have HH := hid h6
  have HU := hid u6
  clear h6 u6
  go_wp2
  go_ret
  exact ⟨rfl, HH.out, HU.out⟩
set_option maxHeartbeats 1000000 in
theorem ref_fast2 {W : World} {rb : Nat} {a F G A L K R q : Int} (h0 : Sv W 29 rb a F G A L K R) (hq : q = 2) (hF : F = 2)  (g0 : 0 ≤ G) (g1 : G ≤ 1000000000) (a0 : 0 ≤ A) (a1 : A ≤ 1000000000) (l0 : 0 ≤ L) (l1 : L ≤ 1000000000) : Calls Try.prog 11 #[.pointer (some ⟨rb, 0, none⟩), .int .i64 q] W fun e w' => e = .returned (.int .i64 (2)) ∧ Sv w' 29 rb a F G (A + 1) L K R ∧ Upd (· = rb) W w' := by
  have c := h0.cells
  have z := h0.thaw
  have wG : IntKind.i64.wrap (G + 1) = G + 1 := by rw [IntKind.wrap_i64]; omega
  have wA : IntKind.i64.wrap (A + 1) = A + 1 := by rw [IntKind.wrap_i64]; omega
  have wL : IntKind.i64.wrap (L + 1) = L + 1 := by rw [IntKind.wrap_i64]; omega
  have u0 := Upd.refl (· = rb) W
  subst hq
  subst hF
  clear g0 g1 a0 a1 l0 l1
  go_enter Try.func11, Try.ntmps11
  go_upto_region 5 with fail
  have h1 := h0.set3 (A + 1)
  have u1 := u0.one 3 (.int .i64 (A + 1))
  generalize World.setCell W _ _ = W1 at *
  clear c z h0 u0
  have c := h1.cells
  have z := h1.thaw
  have HH := hid h1
  have HU := hid u1
  clear h1 u1
  go_wp2
  go_ret
  exact ⟨rfl, HH.out, HU.out⟩
set_option maxHeartbeats 1000000 in
theorem ref_turn2 {W : World} {rb : Nat} {a F G A L K R q : Int} (h0 : Sv W 29 rb a F G A L K R) (hq : q = 2) (hF : F = 0) (hK : K = 2) (hR : R = 2) (hL : L < 4) (g0 : 0 ≤ G) (g1 : G ≤ 1000000000) (a0 : 0 ≤ A) (a1 : A ≤ 1000000000) (l0 : 0 ≤ L) (l1 : L ≤ 1000000000) : Calls Try.prog 11 #[.pointer (some ⟨rb, 0, none⟩), .int .i64 q] W fun e w' => e = .returned (.int .i64 (0)) ∧ Sv w' 29 rb a 2 (G + 1) A L K 0 ∧ Upd (· = rb) W w' := by
  have c := h0.cells
  have z := h0.thaw
  have wG : IntKind.i64.wrap (G + 1) = G + 1 := by rw [IntKind.wrap_i64]; omega
  have wA : IntKind.i64.wrap (A + 1) = A + 1 := by rw [IntKind.wrap_i64]; omega
  have wL : IntKind.i64.wrap (L + 1) = L + 1 := by rw [IntKind.wrap_i64]; omega
  have u0 := Upd.refl (· = rb) W
  subst hq
  subst hF
  subst hK
  subst hR
  clear g0 g1 a0 a1 l0 l1
  go_enter Try.func11, Try.ntmps11
  go_upto_region 11 with fail
  have h1 := h0.set2 (G + 1)
  have u1 := u0.one 2 (.int .i64 (G + 1))
  generalize World.setCell W _ _ = W1 at *
  clear c z h0 u0
  have c := h1.cells
  have z := h1.thaw
  go_upto_region 18 with fail
  have h2 := h1.set6 (3)
  have u2 := u1.one 6 (.int .i64 (3))
  generalize World.setCell W1 _ _ = W2 at *
  clear c z h1 u1
  have c := h2.cells
  have z := h2.thaw
  go_upto_region 20 with fail
  have h3 := h2.set1 (2)
  have u3 := u2.one 1 (.int .i64 (2))
  generalize World.setCell W2 _ _ = W3 at *
  clear c z h2 u2
  have c := h3.cells
  have z := h3.thaw
  go_upto_region 21 with fail
  have h4 := h3.set6 (0)
  have u4 := u3.one 6 (.int .i64 (0))
  generalize World.setCell W3 _ _ = W4 at *
  clear c z h3 u3
  have c := h4.cells
  have z := h4.thaw
  have HH := hid h4
  have HU := hid u4
  clear h4 u4
  go_wp2
  go_ret
  exact ⟨rfl, HH.out, HU.out⟩
set_option maxHeartbeats 1000000 in
theorem ref_full2 {W : World} {rb : Nat} {a F G A L K R q : Int} (h0 : Sv W 29 rb a F G A L K R) (hq : q = 2) (hF : F = 0) (hK : K = 2) (hR : R = 2) (hL : ¬ L < 4) (g0 : 0 ≤ G) (g1 : G ≤ 1000000000) (a0 : 0 ≤ A) (a1 : A ≤ 1000000000) (l0 : 0 ≤ L) (l1 : L ≤ 1000000000) : Calls Try.prog 11 #[.pointer (some ⟨rb, 0, none⟩), .int .i64 q] W fun e w' => e = .returned (.int .i64 (0)) ∧ Sv w' 29 rb a F (G + 1) A L K 3 ∧ Upd (· = rb) W w' := by
  have c := h0.cells
  have z := h0.thaw
  have wG : IntKind.i64.wrap (G + 1) = G + 1 := by rw [IntKind.wrap_i64]; omega
  have wA : IntKind.i64.wrap (A + 1) = A + 1 := by rw [IntKind.wrap_i64]; omega
  have wL : IntKind.i64.wrap (L + 1) = L + 1 := by rw [IntKind.wrap_i64]; omega
  have u0 := Upd.refl (· = rb) W
  subst hq
  subst hF
  subst hK
  subst hR
  clear g0 g1 a0 a1 l0 l1
  go_enter Try.func11, Try.ntmps11
  go_upto_region 11 with fail
  have h1 := h0.set2 (G + 1)
  have u1 := u0.one 2 (.int .i64 (G + 1))
  generalize World.setCell W _ _ = W1 at *
  clear c z h0 u0
  have c := h1.cells
  have z := h1.thaw
  go_upto_region 18 with fail
  have h2 := h1.set6 (3)
  have u2 := u1.one 6 (.int .i64 (3))
  generalize World.setCell W1 _ _ = W2 at *
  clear c z h1 u1
  have c := h2.cells
  have z := h2.thaw
  have HH := hid h2
  have HU := hid u2
  clear h2 u2
  go_wp2
  go_ret
  exact ⟨rfl, HH.out, HU.out⟩
set_option maxHeartbeats 1000000 in
theorem ref_one2 {W : World} {rb : Nat} {a F G A L K R q : Int} (h0 : Sv W 29 rb a F G A L K R) (hq : q = 2) (hF : F = 0) (hK : K = 2) (hR : R = 1)  (g0 : 0 ≤ G) (g1 : G ≤ 1000000000) (a0 : 0 ≤ A) (a1 : A ≤ 1000000000) (l0 : 0 ≤ L) (l1 : L ≤ 1000000000) : Calls Try.prog 11 #[.pointer (some ⟨rb, 0, none⟩), .int .i64 q] W fun e w' => e = .returned (.int .i64 (0)) ∧ Sv w' 29 rb a F (G + 1) A L K 2 ∧ Upd (· = rb) W w' := by
  have c := h0.cells
  have z := h0.thaw
  have wG : IntKind.i64.wrap (G + 1) = G + 1 := by rw [IntKind.wrap_i64]; omega
  have wA : IntKind.i64.wrap (A + 1) = A + 1 := by rw [IntKind.wrap_i64]; omega
  have wL : IntKind.i64.wrap (L + 1) = L + 1 := by rw [IntKind.wrap_i64]; omega
  have u0 := Upd.refl (· = rb) W
  subst hq
  subst hF
  subst hK
  subst hR
  clear g0 g1 a0 a1 l0 l1
  go_enter Try.func11, Try.ntmps11
  go_upto_region 11 with fail
  have h1 := h0.set2 (G + 1)
  have u1 := u0.one 2 (.int .i64 (G + 1))
  generalize World.setCell W _ _ = W1 at *
  clear c z h0 u0
  have c := h1.cells
  have z := h1.thaw
  go_upto_region 18 with fail
  have h2 := h1.set6 (2)
  have u2 := u1.one 6 (.int .i64 (2))
  generalize World.setCell W1 _ _ = W2 at *
  clear c z h1 u1
  have c := h2.cells
  have z := h2.thaw
  have HH := hid h2
  have HU := hid u2
  clear h2 u2
  go_wp2
  go_ret
  exact ⟨rfl, HH.out, HU.out⟩
set_option maxHeartbeats 1000000 in
theorem ref_three2 {W : World} {rb : Nat} {a F G A L K R q : Int} (h0 : Sv W 29 rb a F G A L K R) (hq : q = 2) (hF : F = 0) (hK : K = 2) (hR : R = 3) (hL : ¬ L < 4) (g0 : 0 ≤ G) (g1 : G ≤ 1000000000) (a0 : 0 ≤ A) (a1 : A ≤ 1000000000) (l0 : 0 ≤ L) (l1 : L ≤ 1000000000) : Calls Try.prog 11 #[.pointer (some ⟨rb, 0, none⟩), .int .i64 q] W fun e w' => e = .returned (.int .i64 (0)) ∧ Sv w' 29 rb a F (G + 1) A L K R ∧ Upd (· = rb) W w' := by
  have c := h0.cells
  have z := h0.thaw
  have wG : IntKind.i64.wrap (G + 1) = G + 1 := by rw [IntKind.wrap_i64]; omega
  have wA : IntKind.i64.wrap (A + 1) = A + 1 := by rw [IntKind.wrap_i64]; omega
  have wL : IntKind.i64.wrap (L + 1) = L + 1 := by rw [IntKind.wrap_i64]; omega
  have u0 := Upd.refl (· = rb) W
  subst hq
  subst hF
  subst hK
  subst hR
  clear g0 g1 a0 a1 l0 l1
  go_enter Try.func11, Try.ntmps11
  go_upto_region 11 with fail
  have h1 := h0.set2 (G + 1)
  have u1 := u0.one 2 (.int .i64 (G + 1))
  generalize World.setCell W _ _ = W1 at *
  clear c z h0 u0
  have c := h1.cells
  have z := h1.thaw
  have HH := hid h1
  have HU := hid u1
  clear h1 u1
  go_wp2
  go_ret
  exact ⟨rfl, HH.out, HU.out⟩
set_option maxHeartbeats 1000000 in
theorem ref_none2 {W : World} {rb : Nat} {a F G A L K R q : Int} (h0 : Sv W 29 rb a F G A L K R) (hq : q = 2) (hF : F = 0) (hR : R = 0)  (g0 : 0 ≤ G) (g1 : G ≤ 1000000000) (a0 : 0 ≤ A) (a1 : A ≤ 1000000000) (l0 : 0 ≤ L) (l1 : L ≤ 1000000000) : Calls Try.prog 11 #[.pointer (some ⟨rb, 0, none⟩), .int .i64 q] W fun e w' => e = .returned (.int .i64 (0)) ∧ Sv w' 29 rb a F (G + 1) A L 2 1 ∧ Upd (· = rb) W w' := by
  have c := h0.cells
  have z := h0.thaw
  have wG : IntKind.i64.wrap (G + 1) = G + 1 := by rw [IntKind.wrap_i64]; omega
  have wA : IntKind.i64.wrap (A + 1) = A + 1 := by rw [IntKind.wrap_i64]; omega
  have wL : IntKind.i64.wrap (L + 1) = L + 1 := by rw [IntKind.wrap_i64]; omega
  have u0 := Upd.refl (· = rb) W
  subst hq
  subst hF
  subst hR
  clear g0 g1 a0 a1 l0 l1
  go_enter Try.func11, Try.ntmps11
  go_upto_region 11 with fail
  have h1 := h0.set2 (G + 1)
  have u1 := u0.one 2 (.int .i64 (G + 1))
  generalize World.setCell W _ _ = W1 at *
  clear c z h0 u0
  have c := h1.cells
  have z := h1.thaw
  go_upto_region 17 with fail
  have h2 := h1.set5 (2)
  have u2 := u1.one 5 (.int .i64 (2))
  generalize World.setCell W1 _ _ = W2 at *
  clear c z h1 u1
  have c := h2.cells
  have z := h2.thaw
  go_upto_region 18 with fail
  have h3 := h2.set6 (1)
  have u3 := u2.one 6 (.int .i64 (1))
  generalize World.setCell W2 _ _ = W3 at *
  clear c z h2 u2
  have c := h3.cells
  have z := h3.thaw
  have HH := hid h3
  have HU := hid u3
  clear h3 u3
  go_wp2
  go_ret
  exact ⟨rfl, HH.out, HU.out⟩
set_option maxHeartbeats 1000000 in
theorem ref_other2 {W : World} {rb : Nat} {a F G A L K R q : Int} (h0 : Sv W 29 rb a F G A L K R) (hq : q = 2) (hF : F = 0) (hR : R > 0) (hK : (K == 2) = false) (g0 : 0 ≤ G) (g1 : G ≤ 1000000000) (a0 : 0 ≤ A) (a1 : A ≤ 1000000000) (l0 : 0 ≤ L) (l1 : L ≤ 1000000000) : Calls Try.prog 11 #[.pointer (some ⟨rb, 0, none⟩), .int .i64 q] W fun e w' => e = .returned (.int .i64 (0)) ∧ Sv w' 29 rb a F (G + 1) A L 2 1 ∧ Upd (· = rb) W w' := by
  have c := h0.cells
  have z := h0.thaw
  have wG : IntKind.i64.wrap (G + 1) = G + 1 := by rw [IntKind.wrap_i64]; omega
  have wA : IntKind.i64.wrap (A + 1) = A + 1 := by rw [IntKind.wrap_i64]; omega
  have wL : IntKind.i64.wrap (L + 1) = L + 1 := by rw [IntKind.wrap_i64]; omega
  have u0 := Upd.refl (· = rb) W
  subst hq
  subst hF
  clear g0 g1 a0 a1 l0 l1
  go_enter Try.func11, Try.ntmps11
  go_upto_region 11 with fail
  have h1 := h0.set2 (G + 1)
  have u1 := u0.one 2 (.int .i64 (G + 1))
  generalize World.setCell W _ _ = W1 at *
  clear c z h0 u0
  have c := h1.cells
  have z := h1.thaw
  go_upto_region 17 with fail
  have h2 := h1.set5 (2)
  have u2 := u1.one 5 (.int .i64 (2))
  generalize World.setCell W1 _ _ = W2 at *
  clear c z h1 u1
  have c := h2.cells
  have z := h2.thaw
  go_upto_region 18 with fail
  have h3 := h2.set6 (1)
  have u3 := u2.one 6 (.int .i64 (1))
  generalize World.setCell W2 _ _ = W3 at *
  clear c z h2 u2
  have c := h3.cells
  have z := h3.thaw
  have HH := hid h3
  have HU := hid u3
  clear h3 u3
  go_wp2
  go_ret
  exact ⟨rfl, HH.out, HU.out⟩
set_option maxHeartbeats 1000000 in
theorem ref_fail2 {W : World} {rb : Nat} {a F G A L K R q : Int} (h0 : Sv W 29 rb a F G A L K R) (hq : q = 2) (hF : F = 1)  (g0 : 0 ≤ G) (g1 : G ≤ 1000000000) (a0 : 0 ≤ A) (a1 : A ≤ 1000000000) (l0 : 0 ≤ L) (l1 : L ≤ 1000000000) : Calls Try.prog 11 #[.pointer (some ⟨rb, 0, none⟩), .int .i64 q] W fun e w' => e = .returned (.int .i64 (0)) ∧ Sv w' 29 rb a 0 (G + 1) A (L + 1) 2 1 ∧ Upd (· = rb) W w' := by
  have c := h0.cells
  have z := h0.thaw
  have wG : IntKind.i64.wrap (G + 1) = G + 1 := by rw [IntKind.wrap_i64]; omega
  have wA : IntKind.i64.wrap (A + 1) = A + 1 := by rw [IntKind.wrap_i64]; omega
  have wL : IntKind.i64.wrap (L + 1) = L + 1 := by rw [IntKind.wrap_i64]; omega
  have u0 := Upd.refl (· = rb) W
  subst hq
  subst hF
  clear g0 g1 a0 a1 l0 l1
  go_enter Try.func11, Try.ntmps11
  go_upto_region 8 with fail
  have h1 := h0.set4 (L + 1)
  have u1 := u0.one 4 (.int .i64 (L + 1))
  generalize World.setCell W _ _ = W1 at *
  clear c z h0 u0
  have c := h1.cells
  have z := h1.thaw
  go_upto_region 9 with fail
  have h2 := h1.set1 (0)
  have u2 := u1.one 1 (.int .i64 (0))
  generalize World.setCell W1 _ _ = W2 at *
  clear c z h1 u1
  have c := h2.cells
  have z := h2.thaw
  go_upto_region 10 with fail
  have h3 := h2.set6 (0)
  have u3 := u2.one 6 (.int .i64 (0))
  generalize World.setCell W2 _ _ = W3 at *
  clear c z h2 u2
  have c := h3.cells
  have z := h3.thaw
  go_upto_region 11 with fail
  have h4 := h3.set2 (G + 1)
  have u4 := u3.one 2 (.int .i64 (G + 1))
  generalize World.setCell W3 _ _ = W4 at *
  clear c z h3 u3
  have c := h4.cells
  have z := h4.thaw
  go_upto_region 17 with fail
  have h5 := h4.set5 (2)
  have u5 := u4.one 5 (.int .i64 (2))
  generalize World.setCell W4 _ _ = W5 at *
  clear c z h4 u4
  have c := h5.cells
  have z := h5.thaw
  go_upto_region 18 with fail
  have h6 := h5.set6 (1)
  have u6 := u5.one 6 (.int .i64 (1))
  generalize World.setCell W5 _ _ = W6 at *
  clear c z h5 u5
  have c := h6.cells
  have z := h6.thaw
  have HH := hid h6
  have HU := hid u6
  clear h6 u6
  go_wp2
  go_ret
  exact ⟨rfl, HH.out, HU.out⟩
set_option maxHeartbeats 1000000 in
theorem ref_zero0 {W : World} {rb : Nat} {a F G A L K R q : Int} (h0 : Sv W 29 rb a F G A L K R) (hF : F = 0) (q1 : (q != 1) = true) (q2 : (q != 2) = true) (g0 : 0 ≤ G) (g1 : G ≤ 1000000000) (a0 : 0 ≤ A) (a1 : A ≤ 1000000000) (l0 : 0 ≤ L) (l1 : L ≤ 1000000000) : Calls Try.prog 11 #[.pointer (some ⟨rb, 0, none⟩), .int .i64 q] W fun e w' => e = .returned (.int .i64 (0)) ∧ Sv w' 29 rb a F (G + 1) A L K 0 ∧ Upd (· = rb) W w' := by
  have c := h0.cells
  have z := h0.thaw
  have wG : IntKind.i64.wrap (G + 1) = G + 1 := by rw [IntKind.wrap_i64]; omega
  have wA : IntKind.i64.wrap (A + 1) = A + 1 := by rw [IntKind.wrap_i64]; omega
  have wL : IntKind.i64.wrap (L + 1) = L + 1 := by rw [IntKind.wrap_i64]; omega
  have u0 := Upd.refl (· = rb) W
  subst hF
  clear g0 g1 a0 a1 l0 l1
  go_enter Try.func11, Try.ntmps11
  go_upto_region 11 with fail
  have h1 := h0.set2 (G + 1)
  have u1 := u0.one 2 (.int .i64 (G + 1))
  generalize World.setCell W _ _ = W1 at *
  clear c z h0 u0
  have c := h1.cells
  have z := h1.thaw
  go_upto_region 18 with fail
  have h2 := h1.set6 (0)
  have u2 := u1.one 6 (.int .i64 (0))
  generalize World.setCell W1 _ _ = W2 at *
  clear c z h1 u1
  have c := h2.cells
  have z := h2.thaw
  have HH := hid h2
  have HU := hid u2
  clear h2 u2
  go_wp2
  go_ret
  exact ⟨rfl, HH.out, HU.out⟩
set_option maxHeartbeats 1000000 in
theorem ref_zero1 {W : World} {rb : Nat} {a F G A L K R q : Int} (h0 : Sv W 29 rb a F G A L K R) (hF : F = 1) (q1 : (q != 1) = true) (q2 : (q != 2) = true) (g0 : 0 ≤ G) (g1 : G ≤ 1000000000) (a0 : 0 ≤ A) (a1 : A ≤ 1000000000) (l0 : 0 ≤ L) (l1 : L ≤ 1000000000) : Calls Try.prog 11 #[.pointer (some ⟨rb, 0, none⟩), .int .i64 q] W fun e w' => e = .returned (.int .i64 (0)) ∧ Sv w' 29 rb a 0 (G + 1) A (L + 1) K 0 ∧ Upd (· = rb) W w' := by
  have c := h0.cells
  have z := h0.thaw
  have wG : IntKind.i64.wrap (G + 1) = G + 1 := by rw [IntKind.wrap_i64]; omega
  have wA : IntKind.i64.wrap (A + 1) = A + 1 := by rw [IntKind.wrap_i64]; omega
  have wL : IntKind.i64.wrap (L + 1) = L + 1 := by rw [IntKind.wrap_i64]; omega
  have u0 := Upd.refl (· = rb) W
  subst hF
  clear g0 g1 a0 a1 l0 l1
  go_enter Try.func11, Try.ntmps11
  go_upto_region 8 with fail
  have h1 := h0.set4 (L + 1)
  have u1 := u0.one 4 (.int .i64 (L + 1))
  generalize World.setCell W _ _ = W1 at *
  clear c z h0 u0
  have c := h1.cells
  have z := h1.thaw
  go_upto_region 9 with fail
  have h2 := h1.set1 (0)
  have u2 := u1.one 1 (.int .i64 (0))
  generalize World.setCell W1 _ _ = W2 at *
  clear c z h1 u1
  have c := h2.cells
  have z := h2.thaw
  go_upto_region 10 with fail
  have h3 := h2.set6 (0)
  have u3 := u2.one 6 (.int .i64 (0))
  generalize World.setCell W2 _ _ = W3 at *
  clear c z h2 u2
  have c := h3.cells
  have z := h3.thaw
  go_upto_region 11 with fail
  have h4 := h3.set2 (G + 1)
  have u4 := u3.one 2 (.int .i64 (G + 1))
  generalize World.setCell W3 _ _ = W4 at *
  clear c z h3 u3
  have c := h4.cells
  have z := h4.thaw
  go_upto_region 18 with fail
  have h5 := h4.set6 (0)
  have u5 := u4.one 6 (.int .i64 (0))
  generalize World.setCell W4 _ _ = W5 at *
  clear c z h4 u4
  have c := h5.cells
  have z := h5.thaw
  have HH := hid h5
  have HU := hid u5
  clear h5 u5
  go_wp2
  go_ret
  exact ⟨rfl, HH.out, HU.out⟩
set_option maxHeartbeats 1000000 in
theorem ref_zero2 {W : World} {rb : Nat} {a F G A L K R q : Int} (h0 : Sv W 29 rb a F G A L K R) (hF : F = 2) (q1 : (q != 1) = true) (q2 : (q != 2) = true) (g0 : 0 ≤ G) (g1 : G ≤ 1000000000) (a0 : 0 ≤ A) (a1 : A ≤ 1000000000) (l0 : 0 ≤ L) (l1 : L ≤ 1000000000) : Calls Try.prog 11 #[.pointer (some ⟨rb, 0, none⟩), .int .i64 q] W fun e w' => e = .returned (.int .i64 (0)) ∧ Sv w' 29 rb a 0 (G + 1) A (L + 1) K 0 ∧ Upd (· = rb) W w' := by
  have c := h0.cells
  have z := h0.thaw
  have wG : IntKind.i64.wrap (G + 1) = G + 1 := by rw [IntKind.wrap_i64]; omega
  have wA : IntKind.i64.wrap (A + 1) = A + 1 := by rw [IntKind.wrap_i64]; omega
  have wL : IntKind.i64.wrap (L + 1) = L + 1 := by rw [IntKind.wrap_i64]; omega
  have u0 := Upd.refl (· = rb) W
  subst hF
  clear g0 g1 a0 a1 l0 l1
  go_enter Try.func11, Try.ntmps11
  go_upto_region 8 with fail
  have h1 := h0.set4 (L + 1)
  have u1 := u0.one 4 (.int .i64 (L + 1))
  generalize World.setCell W _ _ = W1 at *
  clear c z h0 u0
  have c := h1.cells
  have z := h1.thaw
  go_upto_region 9 with fail
  have h2 := h1.set1 (0)
  have u2 := u1.one 1 (.int .i64 (0))
  generalize World.setCell W1 _ _ = W2 at *
  clear c z h1 u1
  have c := h2.cells
  have z := h2.thaw
  go_upto_region 10 with fail
  have h3 := h2.set6 (0)
  have u3 := u2.one 6 (.int .i64 (0))
  generalize World.setCell W2 _ _ = W3 at *
  clear c z h2 u2
  have c := h3.cells
  have z := h3.thaw
  go_upto_region 11 with fail
  have h4 := h3.set2 (G + 1)
  have u4 := u3.one 2 (.int .i64 (G + 1))
  generalize World.setCell W3 _ _ = W4 at *
  clear c z h3 u3
  have c := h4.cells
  have z := h4.thaw
  go_upto_region 18 with fail
  have h5 := h4.set6 (0)
  have u5 := u4.one 6 (.int .i64 (0))
  generalize World.setCell W4 _ _ = W5 at *
  clear c z h4 u4
  have c := h5.cells
  have z := h5.thaw
  have HH := hid h5
  have HU := hid u5
  clear h5 u5
  go_wp2
  go_ret
  exact ⟨rfl, HH.out, HU.out⟩
end Go.Proofs.Ytalcfblknoojpaa.W.Si
