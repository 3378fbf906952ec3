/- The walk of the statement NumThree: it returns true at every three numbers. -/
import Derived.Test.YtpbcplgpbafjpaaNumAw
import Derived.Test.YtpbcplgpbafjpaaNumO
import Derived.Test.YtpbcplgpbafjpaaNumOpen
import Derived.OpenShut
import Derived.RowKit3
import Derived.Deep.DeepCutAuto
namespace Go.Proofs.Ytpbcplgpbafjpaa.W
open Go.ChangeShapes Go.WideShapes Go.RowKit
/-- is a number a NaN? -/
def nanN (a : Bool) (u : Int) : Bool := !a && nanB u
theorem Gr.calls {P : Program} {f : FuncId} {args : Array Value} {w : World} {n : Nat} {os : Array Obj} {v : Value} (h : Calls P f args (Sort.grow (w.drewN n) os) fun e w' => e = .returned v ∧ Gr (Sort.grow (w.drewN n) os) w') :
    Calls P f args (Sort.grow (w.drewN n) os) fun e w'' => e = .returned v ∧ ∃ p : GrownBy, w'' = Sort.grow (w.drewN p.n) p.os := Calls.grown_of h
set_option maxHeartbeats 800000 in
theorem lawNan_c (a : Bool) (i u : Int) (u0 : 0 ≤ u) (u1 : u < 18446744073709551616) (w : World) :
    Calls Try.prog 34 #[.agg #[.bool a, .int .i64 i, .int .u64 u]] w fun e w' => e = .returned (.bool (nanN a u)) ∧ Gr w w' := by
  cases a
  all_goals
    go_enter Try.func34, Try.ntmps34
    go_wp2_with (go_at_call 69; refine (refNaN_c _ (by omega) (by omega) _).mono ?_; rintro e w' ⟨rfl, rfl⟩)
    go_ret
    exact ⟨rfl, (Gr.refl _).alloc _⟩
/-- the exact number, in units of the least place -/
def numK (a : Bool) (i u : Int) : Int := if a = true then i * one1 else keyI u
theorem cmpI_turn (x y : Int) : turnI (cmpI y x) = cmpI x y := by
  rcases Int.lt_trichotomy x y with h | h | h
  · rw [cmpI_gt h, cmpI_lt h]; decide
  · rw [cmpI_eq h, cmpI_eq h.symm]; decide
  · rw [cmpI_lt h, cmpI_gt h]; decide
theorem ord_num (a b : Bool) (i u j v : Int) (ha : nanN a u = false) (hb : nanN b v = false) : ordI a i u b j v = cmpI (numK a i u) (numK b j v) := by
  cases a <;> cases b
  · have h1 : nanB u = false := ha
    have h2 : nanB v = false := hb
    show ordD u v = cmpI (keyI u) (keyI v)
    unfold ordD
    rw [h1, h2]
    rw [if_neg (by simp)]
  · have h1 : nanB u = false := ha
    show turnI (ordM j u) = cmpI (keyI u) (j * one1)
    have : ordM j u = cmpI (j * one1) (keyI u) := by unfold ordM; rw [h1, if_neg (by simp)]
    rw [this, cmpI_turn]
  · have h2 : nanB v = false := hb
    show ordM i v = cmpI (i * one1) (keyI v)
    unfold ordM; rw [h2, if_neg (by simp)]
  · show cmpI i j = cmpI (i * one1) (j * one1)
    rw [cmp_scale]
theorem ord_nan (a b : Bool) (i u j v : Int) (h : nanN a u = true ∨ nanN b v = true) : ordI a i u b j v = 2 := by
  cases a <;> cases b
  · show ordD u v = 2
    unfold ordD
    have : nanB u = true ∨ nanB v = true := h
    rw [if_pos this]
  · have h1 : nanB u = true := h.elim id (fun g => by cases g)
    show turnI (ordM j u) = 2
    unfold ordM; rw [if_pos h1]; rfl
  · have h1 : nanB v = true := h.elim (fun g => by cases g) id
    show ordM i v = 2
    unfold ordM; rw [if_pos h1]
  · rcases h with h | h <;> cases h
theorem cmp_le (x y : Int) : (cmpI x y == -1 || cmpI x y == 0) = !(cmpI y x == -1) := by
  rcases Int.lt_trichotomy x y with h | h | h
  · rw [cmpI_lt h, cmpI_gt h]; decide
  · rw [cmpI_eq h, cmpI_eq h.symm]; decide
  · rw [cmpI_gt h, cmpI_lt h]; decide
theorem cmp_sym (x y : Int) : (cmpI y x == 0) = (cmpI x y == 0) := by
  rcases Int.lt_trichotomy x y with h | h | h
  · rw [cmpI_lt h, cmpI_gt h]; decide
  · rw [cmpI_eq h, cmpI_eq h.symm]
  · rw [cmpI_gt h, cmpI_lt h]; decide
theorem cmp_one (x y : Int) : ((cmpI x y == -1) = true ∧ (cmpI x y == 0) = false ∧ (cmpI y x == -1) = false) ∨ ((cmpI x y == -1) = false ∧ (cmpI x y == 0) = true ∧ (cmpI y x == -1) = false) ∨ ((cmpI x y == -1) = false ∧ (cmpI x y == 0) = false ∧ (cmpI y x == -1) = true) := by
  rcases Int.lt_trichotomy x y with h | h | h
  · rw [cmpI_lt h, cmpI_gt h]; decide
  · rw [cmpI_eq h, cmpI_eq h.symm]; decide
  · rw [cmpI_gt h, cmpI_lt h]; decide
theorem le_iff (x y : Int) : (cmpI x y == -1 || cmpI x y == 0) = true ↔ x ≤ y := by
  rcases Int.lt_trichotomy x y with h | h | h
  · rw [cmpI_lt h]; exact ⟨fun _ => by omega, fun _ => by decide⟩
  · rw [cmpI_eq h]; exact ⟨fun _ => by omega, fun _ => by decide⟩
  · rw [cmpI_gt h]; exact ⟨(fun g => absurd g (by decide)), fun g => by omega⟩
theorem lt_iff (x y : Int) : (cmpI x y == -1) = true ↔ x < y := by
  rcases Int.lt_trichotomy x y with h | h | h
  · rw [cmpI_lt h]; exact ⟨fun _ => h, fun _ => by decide⟩
  · rw [cmpI_eq h]; exact ⟨(fun g => absurd g (by decide)), fun g => by omega⟩
  · rw [cmpI_gt h]; exact ⟨(fun g => absurd g (by decide)), fun g => by omega⟩
theorem eq_iff (x y : Int) : (cmpI x y == 0) = true ↔ x = y := by
  rcases Int.lt_trichotomy x y with h | h | h
  · rw [cmpI_lt h]; exact ⟨(fun g => absurd g (by decide)), fun g => by omega⟩
  · rw [cmpI_eq h]; exact ⟨fun _ => h, fun _ => by decide⟩
  · rw [cmpI_gt h]; exact ⟨(fun g => absurd g (by decide)), fun g => by omega⟩
theorem cmp_t1 (x y z : Int) : (cmpI y x == -1) = false → (cmpI y z == -1 || cmpI y z == 0) = true → (cmpI x z == -1 || cmpI x z == 0) = true := by
  intro h1 h2
  have h1' : ¬ y < x := fun g => by rw [(lt_iff y x).2 g] at h1; cases h1
  have := (le_iff y z).1 h2
  exact (le_iff x z).2 (by omega)
theorem cmp_t2 (x y z : Int) : (cmpI x y == -1) = true → (cmpI y z == -1 || cmpI y z == 0) = true → (cmpI x z == -1) = true := by
  intro h1 h2
  have := (lt_iff x y).1 h1
  have := (le_iff y z).1 h2
  exact (lt_iff x z).2 (by omega)
theorem cmp_t3 (x y z : Int) : (cmpI x y == 0) = true → (cmpI y z == 0) = (cmpI x z == 0) := by
  intro h1
  rw [(eq_iff x y).1 h1]
set_option maxRecDepth 100000 in
set_option maxHeartbeats 8000000 in
theorem numThree_nan (a b c : Bool) (i u j v k x : Int) (m1 m2 : Bool) (w : World) (hC : m1 = true ∨ (m1 = false ∧ m2 = true))
    (l1 : ∀ w, Calls Try.prog 28 #[.agg #[.bool a, .int .i64 i, .int .u64 u], .agg #[.bool b, .int .i64 j, .int .u64 v]] w fun e w' => e = .returned (.bool false) ∧ Gr w w')
    (e1 : ∀ w, Calls Try.prog 32 #[.agg #[.bool a, .int .i64 i, .int .u64 u], .agg #[.bool b, .int .i64 j, .int .u64 v]] w fun e w' => e = .returned (.bool false) ∧ Gr w w')
    (l2 : ∀ w, Calls Try.prog 28 #[.agg #[.bool b, .int .i64 j, .int .u64 v], .agg #[.bool a, .int .i64 i, .int .u64 u]] w fun e w' => e = .returned (.bool false) ∧ Gr w w')
    (q1 : ∀ w, Calls Try.prog 30 #[.agg #[.bool a, .int .i64 i, .int .u64 u], .agg #[.bool b, .int .i64 j, .int .u64 v]] w fun e w' => e = .returned (.bool false) ∧ Gr w w')
    (q2 : ∀ w, Calls Try.prog 30 #[.agg #[.bool b, .int .i64 j, .int .u64 v], .agg #[.bool a, .int .i64 i, .int .u64 u]] w fun e w' => e = .returned (.bool false) ∧ Gr w w')
    (n1 : ∀ w, Calls Try.prog 34 #[.agg #[.bool a, .int .i64 i, .int .u64 u]] w fun e w' => e = .returned (.bool m1) ∧ Gr w w')
    (n2 : ∀ w, Calls Try.prog 34 #[.agg #[.bool b, .int .i64 j, .int .u64 v]] w fun e w' => e = .returned (.bool m2) ∧ Gr w w') :
    Calls Try.prog 7 #[.agg #[.bool a, .int .i64 i, .int .u64 u], .agg #[.bool b, .int .i64 j, .int .u64 v], .agg #[.bool c, .int .i64 k, .int .u64 x]] w fun e w' => e = .returned (.bool true) ∧ Gr w w' := by
  go_enter Try.func7, Try.ntmps7
  go_upto_region 1 with fail
  generalize hW : World.alloc (World.alloc (World.alloc w _) _) _ = W0
  have hg := Gr.of_eq hW
  obtain ⟨fa, fb, fc, fz, hG⟩ := hg.three (Nat.zero_lt_succ _) (Nat.zero_lt_succ _) (Nat.zero_lt_succ _)
  clear hg hW fz
  generalize w.heap.size + 1 + 1 = bC at fc ⊢
  go_region_held3 (fun w' => (∀ i_1, w'.cell? ⟨w.heap.size, i_1, none⟩ = #[Value.bool a, .int .i64 i, .int .u64 u][i_1]?) ∧ (∀ i, w'.cell? ⟨w.heap.size + 1, i, none⟩ = #[Value.bool b, .int .i64 j, .int .u64 v][i]?) ∧ (∀ i, w'.cell? ⟨bC, i, none⟩ = #[Value.bool c, .int .i64 k, .int .u64 x][i]?)) (exact ⟨fa, fb, fc⟩) (first | (go_at_call 28; (with_reducible refine (l1 _).mono ?_); rintro e w' ⟨rfl, hg⟩; (try replace hg := hg.of_drew); replace fa := hg.cells fa (Nat.zero_lt_succ _); replace fb := hg.cells fb (Nat.zero_lt_succ _); replace fc := hg.cells fc (Nat.zero_lt_succ _); replace hG := hG.trans hg; clear hg) | (go_at_call 32; (with_reducible refine (e1 _).mono ?_); rintro e w' ⟨rfl, hg⟩; (try replace hg := hg.of_drew); replace fa := hg.cells fa (Nat.zero_lt_succ _); replace fb := hg.cells fb (Nat.zero_lt_succ _); replace fc := hg.cells fc (Nat.zero_lt_succ _); replace hG := hG.trans hg; clear hg) | (go_at_call 28; (with_reducible refine (l2 _).mono ?_); rintro e w' ⟨rfl, hg⟩; (try replace hg := hg.of_drew); replace fa := hg.cells fa (Nat.zero_lt_succ _); replace fb := hg.cells fb (Nat.zero_lt_succ _); replace fc := hg.cells fc (Nat.zero_lt_succ _); replace hG := hG.trans hg; clear hg))
  clear l1 e1 l2
  rcases hC with rfl | ⟨rfl, rfl⟩
  all_goals
    go_wp2_with (first | (go_at_call 34; first | ((with_reducible refine (n1 _).mono ?_); rintro e w' ⟨rfl, hg⟩; (try replace hg := hg.of_drew); replace fa := hg.cells fa (Nat.zero_lt_succ _); replace fb := hg.cells fb (Nat.zero_lt_succ _); replace fc := hg.cells fc (Nat.zero_lt_succ _); replace hG := hG.trans hg; clear hg) | ((with_reducible refine (n2 _).mono ?_); rintro e w' ⟨rfl, hg⟩; (try replace hg := hg.of_drew); replace fa := hg.cells fa (Nat.zero_lt_succ _); replace fb := hg.cells fb (Nat.zero_lt_succ _); replace fc := hg.cells fc (Nat.zero_lt_succ _); replace hG := hG.trans hg; clear hg)) | (go_at_call 30; (with_reducible refine (q1 _).mono ?_); rintro e w' ⟨rfl, hg⟩; (try replace hg := hg.of_drew); replace fa := hg.cells fa (Nat.zero_lt_succ _); replace fb := hg.cells fb (Nat.zero_lt_succ _); replace fc := hg.cells fc (Nat.zero_lt_succ _); replace hG := hG.trans hg; clear hg) | (go_at_call 30; (with_reducible refine (q2 _).mono ?_); rintro e w' ⟨rfl, hg⟩; (try replace hg := hg.of_drew); replace fa := hg.cells fa (Nat.zero_lt_succ _); replace fb := hg.cells fb (Nat.zero_lt_succ _); replace fc := hg.cells fc (Nat.zero_lt_succ _); replace hG := hG.trans hg; clear hg) | (go_at_call 19; refine (awake_c _).mono ?_; rintro e w' ⟨rfl, hg⟩; (try replace hg := hg.of_drew); replace fa := hg.cells fa (Nat.zero_lt_succ _); replace fb := hg.cells fb (Nat.zero_lt_succ _); replace fc := hg.cells fc (Nat.zero_lt_succ _); replace hG := hG.trans hg; clear hg))
    go_ret
    exact ⟨rfl, hG⟩
theorem mixed : Try.prog.follows .mixedOrders = true := by kernel_rfl
set_option maxRecDepth 100000 in
set_option maxHeartbeats 16000000 in
theorem numThree_core (a b c : Bool) (i u j v k x : Int) (L E M X Y LX EX EY : Bool) (w : World) (hC : (L = true ∧ E = false ∧ M = false) ∨ (L = false ∧ E = true ∧ M = false) ∨ (L = false ∧ E = false ∧ M = true))
    (t1 : M = false → X = true → Y = true) (t2 : L = true → X = true → LX = true) (t3 : E = true → EX = EY)
    (l1 : ∀ w, Calls Try.prog 28 #[.agg #[.bool a, .int .i64 i, .int .u64 u], .agg #[.bool b, .int .i64 j, .int .u64 v]] w fun e w' => e = .returned (.bool L) ∧ Gr w w')
    (e1 : ∀ w, Calls Try.prog 32 #[.agg #[.bool a, .int .i64 i, .int .u64 u], .agg #[.bool b, .int .i64 j, .int .u64 v]] w fun e w' => e = .returned (.bool E) ∧ Gr w w')
    (l2 : ∀ w, Calls Try.prog 28 #[.agg #[.bool b, .int .i64 j, .int .u64 v], .agg #[.bool a, .int .i64 i, .int .u64 u]] w fun e w' => e = .returned (.bool M) ∧ Gr w w')
    (q1 : ∀ w, Calls Try.prog 30 #[.agg #[.bool a, .int .i64 i, .int .u64 u], .agg #[.bool b, .int .i64 j, .int .u64 v]] w fun e w' => e = .returned (.bool (!M)) ∧ Gr w w')
    (q2 : ∀ w, Calls Try.prog 30 #[.agg #[.bool b, .int .i64 j, .int .u64 v], .agg #[.bool a, .int .i64 i, .int .u64 u]] w fun e w' => e = .returned (.bool (!L)) ∧ Gr w w')
    (e2 : ∀ w, Calls Try.prog 32 #[.agg #[.bool b, .int .i64 j, .int .u64 v], .agg #[.bool a, .int .i64 i, .int .u64 u]] w fun e w' => e = .returned (.bool E) ∧ Gr w w')
    (q3 : ∀ w, Calls Try.prog 30 #[.agg #[.bool b, .int .i64 j, .int .u64 v], .agg #[.bool c, .int .i64 k, .int .u64 x]] w fun e w' => e = .returned (.bool X) ∧ Gr w w')
    (q4 : ∀ w, Calls Try.prog 30 #[.agg #[.bool a, .int .i64 i, .int .u64 u], .agg #[.bool c, .int .i64 k, .int .u64 x]] w fun e w' => e = .returned (.bool Y) ∧ Gr w w')
    (l3 : ∀ w, Calls Try.prog 28 #[.agg #[.bool a, .int .i64 i, .int .u64 u], .agg #[.bool c, .int .i64 k, .int .u64 x]] w fun e w' => e = .returned (.bool LX) ∧ Gr w w')
    (e3 : ∀ w, Calls Try.prog 32 #[.agg #[.bool b, .int .i64 j, .int .u64 v], .agg #[.bool c, .int .i64 k, .int .u64 x]] w fun e w' => e = .returned (.bool EX) ∧ Gr w w')
    (e4 : ∀ w, Calls Try.prog 32 #[.agg #[.bool a, .int .i64 i, .int .u64 u], .agg #[.bool c, .int .i64 k, .int .u64 x]] w fun e w' => e = .returned (.bool EY) ∧ Gr w w')
    (e5 : ∀ w, Calls Try.prog 32 #[.agg #[.bool a, .int .i64 i, .int .u64 u], .agg #[.bool a, .int .i64 i, .int .u64 u]] w fun e w' => e = .returned (.bool true) ∧ Gr w w')
    (n1 : ∀ w, Calls Try.prog 34 #[.agg #[.bool a, .int .i64 i, .int .u64 u]] w fun e w' => e = .returned (.bool false) ∧ Gr w w')
    (n2 : ∀ w, Calls Try.prog 34 #[.agg #[.bool b, .int .i64 j, .int .u64 v]] w fun e w' => e = .returned (.bool false) ∧ Gr w w') :
    Calls Try.prog 7 #[.agg #[.bool a, .int .i64 i, .int .u64 u], .agg #[.bool b, .int .i64 j, .int .u64 v], .agg #[.bool c, .int .i64 k, .int .u64 x]] w fun e w' => e = .returned (.bool true) ∧ Gr w w' := by
  go_enter Try.func7, Try.ntmps7
  go_upto_region 1 with fail
  generalize hW : World.alloc (World.alloc (World.alloc w _) _) _ = W0
  have hg := Gr.of_eq hW
  obtain ⟨fa, fb, fc, fz, hG⟩ := hg.three (Nat.zero_lt_succ _) (Nat.zero_lt_succ _) (Nat.zero_lt_succ _)
  clear hg hW fz
  generalize w.heap.size + 1 + 1 = bC at fc ⊢
  go_region_held3 (fun w' => (∀ i_1, w'.cell? ⟨w.heap.size, i_1, none⟩ = #[Value.bool a, .int .i64 i, .int .u64 u][i_1]?) ∧ (∀ i, w'.cell? ⟨w.heap.size + 1, i, none⟩ = #[Value.bool b, .int .i64 j, .int .u64 v][i]?) ∧ (∀ i, w'.cell? ⟨bC, i, none⟩ = #[Value.bool c, .int .i64 k, .int .u64 x][i]?)) (exact ⟨fa, fb, fc⟩) (first | (go_at_call 28; (with_reducible refine (l1 _).mono ?_); rintro e w' ⟨rfl, hg⟩; (try replace hg := hg.of_drew); replace fa := hg.cells fa (Nat.zero_lt_succ _); replace fb := hg.cells fb (Nat.zero_lt_succ _); replace fc := hg.cells fc (Nat.zero_lt_succ _); replace hG := hG.trans hg; clear hg) | (go_at_call 32; (with_reducible refine (e1 _).mono ?_); rintro e w' ⟨rfl, hg⟩; (try replace hg := hg.of_drew); replace fa := hg.cells fa (Nat.zero_lt_succ _); replace fb := hg.cells fb (Nat.zero_lt_succ _); replace fc := hg.cells fc (Nat.zero_lt_succ _); replace hG := hG.trans hg; clear hg) | (go_at_call 28; (with_reducible refine (l2 _).mono ?_); rintro e w' ⟨rfl, hg⟩; (try replace hg := hg.of_drew); replace fa := hg.cells fa (Nat.zero_lt_succ _); replace fb := hg.cells fb (Nat.zero_lt_succ _); replace fc := hg.cells fc (Nat.zero_lt_succ _); replace hG := hG.trans hg; clear hg))
  clear l1 e1 l2
  have T1 := hid t1
  have T2 := hid t2
  have T3 := hid t3
  have HC := hid hC
  clear t1 t2 t3 hC
  go_wp2_with (go_at_call 34; first | ((with_reducible refine (n1 _).mono ?_); rintro e w' ⟨rfl, hg⟩; (try replace hg := hg.of_drew); replace fa := hg.cells fa (Nat.zero_lt_succ _); replace fb := hg.cells fb (Nat.zero_lt_succ _); replace fc := hg.cells fc (Nat.zero_lt_succ _); replace hG := hG.trans hg; clear hg) | ((with_reducible refine (n2 _).mono ?_); rintro e w' ⟨rfl, hg⟩; (try replace hg := hg.of_drew); replace fa := hg.cells fa (Nat.zero_lt_succ _); replace fb := hg.cells fb (Nat.zero_lt_succ _); replace fc := hg.cells fc (Nat.zero_lt_succ _); replace hG := hG.trans hg; clear hg))
  generalize hW : World.alloc _ _ = W
  have hg := Gr.of_eq hW
  have fs := hg.new (Nat.zero_lt_succ _)
  replace hg := hg.of_alloc
  (try replace hg := hg.of_drew); replace fa := hg.cells fa (Nat.zero_lt_succ _); replace fb := hg.cells fb (Nat.zero_lt_succ _); replace fc := hg.cells fc (Nat.zero_lt_succ _); replace hG := hG.trans hg; clear hg
  clear hW n1 n2
  have Q1 := hid q1
  have Q2 := hid q2
  have E2 := hid e2
  have Q3 := hid q3
  have Q4 := hid q4
  have L3 := hid l3
  have E3 := hid e3
  have E4 := hid e4
  have E5 := hid e5
  clear q1 q2 e2 q3 q4 l3 e3 e4 e5
  rcases HC.out with ⟨rfl, rfl, rfl⟩ | ⟨rfl, rfl, rfl⟩ | ⟨rfl, rfl, rfl⟩
  all_goals
    refine wp_loop_rounds 4 ?_
    rw [rounds_succ]
    go_wp2
    rw [rounds_succ]
    go_wp2
    rw [rounds_succ]
    go_wp2
    have q1 := Q1.out
    have q2 := Q2.out
    simp only [Bool.not_true, Bool.not_false] at q1 q2
    replace Q1 := hid q1
    replace Q2 := hid q2
    clear q1 q2
    rw [rounds_succ]
    go_upto_region 11 with fail
    clear fs
    go_cut [88] (fun o wc => o = .bool false ∧ (∀ i_1, wc.cell? ⟨w.heap.size, i_1, none⟩ = #[Value.bool a, .int .i64 i, .int .u64 u][i_1]?) ∧ (∀ i, wc.cell? ⟨w.heap.size + 1, i, none⟩ = #[Value.bool b, .int .i64 j, .int .u64 v][i]?) ∧ (∀ i, wc.cell? ⟨bC, i, none⟩ = #[Value.bool c, .int .i64 k, .int .u64 x][i]?) ∧ Gr w wc)
    case first =>
      go_wp2_with (first | (go_at_call 30; (with_reducible refine ((Hid.out Q1) _).mono ?_); rintro e w' ⟨rfl, hg⟩; (try replace hg := hg.of_drew); replace fa := hg.cells fa (Nat.zero_lt_succ _); replace fb := hg.cells fb (Nat.zero_lt_succ _); replace fc := hg.cells fc (Nat.zero_lt_succ _); replace hG := hG.trans hg; clear hg) | (go_at_call 30; (with_reducible refine ((Hid.out Q2) _).mono ?_); rintro e w' ⟨rfl, hg⟩; (try replace hg := hg.of_drew); replace fa := hg.cells fa (Nat.zero_lt_succ _); replace fb := hg.cells fb (Nat.zero_lt_succ _); replace fc := hg.cells fc (Nat.zero_lt_succ _); replace hG := hG.trans hg; clear hg) | (go_at_call 32; (with_reducible refine ((Hid.out E2) _).mono ?_); rintro e w' ⟨rfl, hg⟩; (try replace hg := hg.of_drew); replace fa := hg.cells fa (Nat.zero_lt_succ _); replace fb := hg.cells fb (Nat.zero_lt_succ _); replace fc := hg.cells fc (Nat.zero_lt_succ _); replace hG := hG.trans hg; clear hg))
      go_meet
      exact ⟨rfl, fa, fb, fc, hG⟩
    clear fa fb fc hG
    obtain ⟨rfl, fa, fb, fc, hG⟩ := hcut
    go_upto_region 13 with fail
  · cases X
    · clear T1 T2 T3 HC
      have ga : ∀ (n : Nat) (os : Array Obj) (i_1 : Nat), (Sort.grow (wc.drewN n) os).cell? ⟨w.heap.size, i_1, none⟩ = #[Value.bool a, .int .i64 i, .int .u64 u][i_1]? := fun n os => (show Gr wc (Sort.grow (wc.drewN n) os) from ⟨n, os, rfl⟩).cells fa (Nat.zero_lt_succ _)
      have gb : ∀ (n : Nat) (os : Array Obj) (i_1 : Nat), (Sort.grow (wc.drewN n) os).cell? ⟨w.heap.size + 1, i_1, none⟩ = #[Value.bool b, .int .i64 j, .int .u64 v][i_1]? := fun n os => (show Gr wc (Sort.grow (wc.drewN n) os) from ⟨n, os, rfl⟩).cells fb (Nat.zero_lt_succ _)
      have gc : ∀ (n : Nat) (os : Array Obj) (i_1 : Nat), (Sort.grow (wc.drewN n) os).cell? ⟨bC, i_1, none⟩ = #[Value.bool c, .int .i64 k, .int .u64 x][i_1]? := fun n os => (show Gr wc (Sort.grow (wc.drewN n) os) from ⟨n, os, rfl⟩).cells fc (Nat.zero_lt_succ _)
      refine wp_region_quiet_grown mixed (by kernel_rfl) ?_
      repeat (go_big_quiet_step (first | (go_at_call 30; with_reducible exact Gr.calls ((Hid.out Q1) _)) | (go_at_call 30; with_reducible exact Gr.calls ((Hid.out Q3) _)) | (go_at_call 30; with_reducible exact Gr.calls ((Hid.out Q4) _)) | (go_at_call 28; with_reducible exact Gr.calls ((Hid.out L3) _)) | (go_at_call 32; with_reducible exact Gr.calls ((Hid.out E3) _)) | (go_at_call 32; with_reducible exact Gr.calls ((Hid.out E4) _))))
      refine wpQuiet_nil ?_
      intro _ hw'
      obtain ⟨⟨nq, osq⟩, hw''⟩ := hw'
      subst hw''
      generalize hW2 : Sort.grow (World.drewN wc _) _ = W2
      have hg : Gr wc W2 := ⟨nq, osq, hW2.symm⟩
      clear ga gb gc hW2
      (try replace hg := hg.of_drew); replace fa := hg.cells fa (Nat.zero_lt_succ _); replace fb := hg.cells fb (Nat.zero_lt_succ _); replace fc := hg.cells fc (Nat.zero_lt_succ _); replace hG := hG.trans hg; clear hg
      go_wp2_with (first | (go_at_call 32; (with_reducible refine ((Hid.out E5) _).mono ?_); rintro e w' ⟨rfl, hg⟩; (try replace hg := hg.of_drew); replace fa := hg.cells fa (Nat.zero_lt_succ _); replace fb := hg.cells fb (Nat.zero_lt_succ _); replace fc := hg.cells fc (Nat.zero_lt_succ _); replace hG := hG.trans hg; clear hg) | (go_at_call 19; refine (awake_c _).mono ?_; rintro e w' ⟨rfl, hg⟩; (try replace hg := hg.of_drew); replace fa := hg.cells fa (Nat.zero_lt_succ _); replace fb := hg.cells fb (Nat.zero_lt_succ _); replace fc := hg.cells fc (Nat.zero_lt_succ _); replace hG := hG.trans hg; clear hg))
      go_ret
      exact ⟨rfl, hG⟩
    · have y1 := T1.out (by simp) (by simp)
      have y2 := T2.out (by simp) (by simp)
      subst y1 y2
      clear T1 T2 T3 HC
      have ga : ∀ (n : Nat) (os : Array Obj) (i_1 : Nat), (Sort.grow (wc.drewN n) os).cell? ⟨w.heap.size, i_1, none⟩ = #[Value.bool a, .int .i64 i, .int .u64 u][i_1]? := fun n os => (show Gr wc (Sort.grow (wc.drewN n) os) from ⟨n, os, rfl⟩).cells fa (Nat.zero_lt_succ _)
      have gb : ∀ (n : Nat) (os : Array Obj) (i_1 : Nat), (Sort.grow (wc.drewN n) os).cell? ⟨w.heap.size + 1, i_1, none⟩ = #[Value.bool b, .int .i64 j, .int .u64 v][i_1]? := fun n os => (show Gr wc (Sort.grow (wc.drewN n) os) from ⟨n, os, rfl⟩).cells fb (Nat.zero_lt_succ _)
      have gc : ∀ (n : Nat) (os : Array Obj) (i_1 : Nat), (Sort.grow (wc.drewN n) os).cell? ⟨bC, i_1, none⟩ = #[Value.bool c, .int .i64 k, .int .u64 x][i_1]? := fun n os => (show Gr wc (Sort.grow (wc.drewN n) os) from ⟨n, os, rfl⟩).cells fc (Nat.zero_lt_succ _)
      refine wp_region_quiet_grown mixed (by kernel_rfl) ?_
      repeat (go_big_quiet_step (first | (go_at_call 30; with_reducible exact Gr.calls ((Hid.out Q1) _)) | (go_at_call 30; with_reducible exact Gr.calls ((Hid.out Q3) _)) | (go_at_call 30; with_reducible exact Gr.calls ((Hid.out Q4) _)) | (go_at_call 28; with_reducible exact Gr.calls ((Hid.out L3) _)) | (go_at_call 32; with_reducible exact Gr.calls ((Hid.out E3) _)) | (go_at_call 32; with_reducible exact Gr.calls ((Hid.out E4) _))))
      refine wpQuiet_nil ?_
      intro _ hw'
      obtain ⟨⟨nq, osq⟩, hw''⟩ := hw'
      subst hw''
      generalize hW2 : Sort.grow (World.drewN wc _) _ = W2
      have hg : Gr wc W2 := ⟨nq, osq, hW2.symm⟩
      clear ga gb gc hW2
      (try replace hg := hg.of_drew); replace fa := hg.cells fa (Nat.zero_lt_succ _); replace fb := hg.cells fb (Nat.zero_lt_succ _); replace fc := hg.cells fc (Nat.zero_lt_succ _); replace hG := hG.trans hg; clear hg
      go_wp2_with (first | (go_at_call 32; (with_reducible refine ((Hid.out E5) _).mono ?_); rintro e w' ⟨rfl, hg⟩; (try replace hg := hg.of_drew); replace fa := hg.cells fa (Nat.zero_lt_succ _); replace fb := hg.cells fb (Nat.zero_lt_succ _); replace fc := hg.cells fc (Nat.zero_lt_succ _); replace hG := hG.trans hg; clear hg) | (go_at_call 19; refine (awake_c _).mono ?_; rintro e w' ⟨rfl, hg⟩; (try replace hg := hg.of_drew); replace fa := hg.cells fa (Nat.zero_lt_succ _); replace fb := hg.cells fb (Nat.zero_lt_succ _); replace fc := hg.cells fc (Nat.zero_lt_succ _); replace hG := hG.trans hg; clear hg))
      go_ret
      exact ⟨rfl, hG⟩
  · have y3 := T3.out (by simp)
    subst y3
    cases X
    · clear T1 T2 T3 HC
      have ga : ∀ (n : Nat) (os : Array Obj) (i_1 : Nat), (Sort.grow (wc.drewN n) os).cell? ⟨w.heap.size, i_1, none⟩ = #[Value.bool a, .int .i64 i, .int .u64 u][i_1]? := fun n os => (show Gr wc (Sort.grow (wc.drewN n) os) from ⟨n, os, rfl⟩).cells fa (Nat.zero_lt_succ _)
      have gb : ∀ (n : Nat) (os : Array Obj) (i_1 : Nat), (Sort.grow (wc.drewN n) os).cell? ⟨w.heap.size + 1, i_1, none⟩ = #[Value.bool b, .int .i64 j, .int .u64 v][i_1]? := fun n os => (show Gr wc (Sort.grow (wc.drewN n) os) from ⟨n, os, rfl⟩).cells fb (Nat.zero_lt_succ _)
      have gc : ∀ (n : Nat) (os : Array Obj) (i_1 : Nat), (Sort.grow (wc.drewN n) os).cell? ⟨bC, i_1, none⟩ = #[Value.bool c, .int .i64 k, .int .u64 x][i_1]? := fun n os => (show Gr wc (Sort.grow (wc.drewN n) os) from ⟨n, os, rfl⟩).cells fc (Nat.zero_lt_succ _)
      refine wp_region_quiet_grown mixed (by kernel_rfl) ?_
      repeat (go_big_quiet_step (first | (go_at_call 30; with_reducible exact Gr.calls ((Hid.out Q1) _)) | (go_at_call 30; with_reducible exact Gr.calls ((Hid.out Q3) _)) | (go_at_call 30; with_reducible exact Gr.calls ((Hid.out Q4) _)) | (go_at_call 28; with_reducible exact Gr.calls ((Hid.out L3) _)) | (go_at_call 32; with_reducible exact Gr.calls ((Hid.out E3) _)) | (go_at_call 32; with_reducible exact Gr.calls ((Hid.out E4) _))))
      refine wpQuiet_nil ?_
      intro _ hw'
      obtain ⟨⟨nq, osq⟩, hw''⟩ := hw'
      subst hw''
      generalize hW2 : Sort.grow (World.drewN wc _) _ = W2
      have hg : Gr wc W2 := ⟨nq, osq, hW2.symm⟩
      clear ga gb gc hW2
      (try replace hg := hg.of_drew); replace fa := hg.cells fa (Nat.zero_lt_succ _); replace fb := hg.cells fb (Nat.zero_lt_succ _); replace fc := hg.cells fc (Nat.zero_lt_succ _); replace hG := hG.trans hg; clear hg
      go_wp2_with (first | (go_at_call 32; (with_reducible refine ((Hid.out E5) _).mono ?_); rintro e w' ⟨rfl, hg⟩; (try replace hg := hg.of_drew); replace fa := hg.cells fa (Nat.zero_lt_succ _); replace fb := hg.cells fb (Nat.zero_lt_succ _); replace fc := hg.cells fc (Nat.zero_lt_succ _); replace hG := hG.trans hg; clear hg) | (go_at_call 19; refine (awake_c _).mono ?_; rintro e w' ⟨rfl, hg⟩; (try replace hg := hg.of_drew); replace fa := hg.cells fa (Nat.zero_lt_succ _); replace fb := hg.cells fb (Nat.zero_lt_succ _); replace fc := hg.cells fc (Nat.zero_lt_succ _); replace hG := hG.trans hg; clear hg))
      go_ret
      exact ⟨rfl, hG⟩
    · have y1 := T1.out (by simp) (by simp)
      subst y1
      clear T1 T2 T3 HC
      have ga : ∀ (n : Nat) (os : Array Obj) (i_1 : Nat), (Sort.grow (wc.drewN n) os).cell? ⟨w.heap.size, i_1, none⟩ = #[Value.bool a, .int .i64 i, .int .u64 u][i_1]? := fun n os => (show Gr wc (Sort.grow (wc.drewN n) os) from ⟨n, os, rfl⟩).cells fa (Nat.zero_lt_succ _)
      have gb : ∀ (n : Nat) (os : Array Obj) (i_1 : Nat), (Sort.grow (wc.drewN n) os).cell? ⟨w.heap.size + 1, i_1, none⟩ = #[Value.bool b, .int .i64 j, .int .u64 v][i_1]? := fun n os => (show Gr wc (Sort.grow (wc.drewN n) os) from ⟨n, os, rfl⟩).cells fb (Nat.zero_lt_succ _)
      have gc : ∀ (n : Nat) (os : Array Obj) (i_1 : Nat), (Sort.grow (wc.drewN n) os).cell? ⟨bC, i_1, none⟩ = #[Value.bool c, .int .i64 k, .int .u64 x][i_1]? := fun n os => (show Gr wc (Sort.grow (wc.drewN n) os) from ⟨n, os, rfl⟩).cells fc (Nat.zero_lt_succ _)
      refine wp_region_quiet_grown mixed (by kernel_rfl) ?_
      repeat (go_big_quiet_step (first | (go_at_call 30; with_reducible exact Gr.calls ((Hid.out Q1) _)) | (go_at_call 30; with_reducible exact Gr.calls ((Hid.out Q3) _)) | (go_at_call 30; with_reducible exact Gr.calls ((Hid.out Q4) _)) | (go_at_call 28; with_reducible exact Gr.calls ((Hid.out L3) _)) | (go_at_call 32; with_reducible exact Gr.calls ((Hid.out E3) _)) | (go_at_call 32; with_reducible exact Gr.calls ((Hid.out E4) _))))
      refine wpQuiet_nil ?_
      intro _ hw'
      obtain ⟨⟨nq, osq⟩, hw''⟩ := hw'
      subst hw''
      generalize hW2 : Sort.grow (World.drewN wc _) _ = W2
      have hg : Gr wc W2 := ⟨nq, osq, hW2.symm⟩
      clear ga gb gc hW2
      (try replace hg := hg.of_drew); replace fa := hg.cells fa (Nat.zero_lt_succ _); replace fb := hg.cells fb (Nat.zero_lt_succ _); replace fc := hg.cells fc (Nat.zero_lt_succ _); replace hG := hG.trans hg; clear hg
      go_wp2_with (first | (go_at_call 32; (with_reducible refine ((Hid.out E5) _).mono ?_); rintro e w' ⟨rfl, hg⟩; (try replace hg := hg.of_drew); replace fa := hg.cells fa (Nat.zero_lt_succ _); replace fb := hg.cells fb (Nat.zero_lt_succ _); replace fc := hg.cells fc (Nat.zero_lt_succ _); replace hG := hG.trans hg; clear hg) | (go_at_call 19; refine (awake_c _).mono ?_; rintro e w' ⟨rfl, hg⟩; (try replace hg := hg.of_drew); replace fa := hg.cells fa (Nat.zero_lt_succ _); replace fb := hg.cells fb (Nat.zero_lt_succ _); replace fc := hg.cells fc (Nat.zero_lt_succ _); replace hG := hG.trans hg; clear hg))
      go_ret
      exact ⟨rfl, hG⟩
  · clear T1 T2 T3 HC
    have ga : ∀ (n : Nat) (os : Array Obj) (i_1 : Nat), (Sort.grow (wc.drewN n) os).cell? ⟨w.heap.size, i_1, none⟩ = #[Value.bool a, .int .i64 i, .int .u64 u][i_1]? := fun n os => (show Gr wc (Sort.grow (wc.drewN n) os) from ⟨n, os, rfl⟩).cells fa (Nat.zero_lt_succ _)
    have gb : ∀ (n : Nat) (os : Array Obj) (i_1 : Nat), (Sort.grow (wc.drewN n) os).cell? ⟨w.heap.size + 1, i_1, none⟩ = #[Value.bool b, .int .i64 j, .int .u64 v][i_1]? := fun n os => (show Gr wc (Sort.grow (wc.drewN n) os) from ⟨n, os, rfl⟩).cells fb (Nat.zero_lt_succ _)
    have gc : ∀ (n : Nat) (os : Array Obj) (i_1 : Nat), (Sort.grow (wc.drewN n) os).cell? ⟨bC, i_1, none⟩ = #[Value.bool c, .int .i64 k, .int .u64 x][i_1]? := fun n os => (show Gr wc (Sort.grow (wc.drewN n) os) from ⟨n, os, rfl⟩).cells fc (Nat.zero_lt_succ _)
    refine wp_region_quiet_grown mixed (by kernel_rfl) ?_
    repeat (go_big_quiet_step (first | (go_at_call 30; with_reducible exact Gr.calls ((Hid.out Q1) _)) | (go_at_call 30; with_reducible exact Gr.calls ((Hid.out Q3) _)) | (go_at_call 30; with_reducible exact Gr.calls ((Hid.out Q4) _)) | (go_at_call 28; with_reducible exact Gr.calls ((Hid.out L3) _)) | (go_at_call 32; with_reducible exact Gr.calls ((Hid.out E3) _)) | (go_at_call 32; with_reducible exact Gr.calls ((Hid.out E4) _))))
    refine wpQuiet_nil ?_
    intro _ hw'
    obtain ⟨⟨nq, osq⟩, hw''⟩ := hw'
    subst hw''
    generalize hW2 : Sort.grow (World.drewN wc _) _ = W2
    have hg : Gr wc W2 := ⟨nq, osq, hW2.symm⟩
    clear ga gb gc hW2
    (try replace hg := hg.of_drew); replace fa := hg.cells fa (Nat.zero_lt_succ _); replace fb := hg.cells fb (Nat.zero_lt_succ _); replace fc := hg.cells fc (Nat.zero_lt_succ _); replace hG := hG.trans hg; clear hg
    go_wp2_with (first | (go_at_call 32; (with_reducible refine ((Hid.out E5) _).mono ?_); rintro e w' ⟨rfl, hg⟩; (try replace hg := hg.of_drew); replace fa := hg.cells fa (Nat.zero_lt_succ _); replace fb := hg.cells fb (Nat.zero_lt_succ _); replace fc := hg.cells fc (Nat.zero_lt_succ _); replace hG := hG.trans hg; clear hg) | (go_at_call 19; refine (awake_c _).mono ?_; rintro e w' ⟨rfl, hg⟩; (try replace hg := hg.of_drew); replace fa := hg.cells fa (Nat.zero_lt_succ _); replace fb := hg.cells fb (Nat.zero_lt_succ _); replace fc := hg.cells fc (Nat.zero_lt_succ _); replace hG := hG.trans hg; clear hg))
    go_ret
    exact ⟨rfl, hG⟩
theorem numThree_walk (b0 : Bool) (i0 u0 : Int) (x0 : (Lit.int .i64 i0).wf = true) (y0 : (Lit.int .u64 u0).wf = true) (b1 : Bool) (i1 u1 : Int) (x1 : (Lit.int .i64 i1).wf = true) (y1 : (Lit.int .u64 u1).wf = true) (b2 : Bool) (i2 u2 : Int) (x2 : (Lit.int .i64 i2).wf = true) (y2 : (Lit.int .u64 u2).wf = true) (w : World) :
    Calls Try.prog 7 #[.agg #[.bool b0, .int .i64 i0, .int .u64 u0], .agg #[.bool b1, .int .i64 i1, .int .u64 u1], .agg #[.bool b2, .int .i64 i2, .int .u64 u2]] w fun e w' => e = .returned (.bool true) ∧ Below w.heap.size w w' := by
  obtain ⟨h0, h0'⟩ := bounds_i64 x0
  obtain ⟨h1, h1'⟩ := bounds_i64 x1
  obtain ⟨h2, h2'⟩ := bounds_i64 x2
  obtain ⟨k0, k0'⟩ := bounds_u64 y0
  obtain ⟨k1, k1'⟩ := bounds_u64 y1
  obtain ⟨k2, k2'⟩ := bounds_u64 y2
  have m0 : inN i0 u0 := ⟨⟨by omega, by omega⟩, by omega, by omega⟩
  have m1 : inN i1 u1 := ⟨⟨by omega, by omega⟩, by omega, by omega⟩
  have m2 : inN i2 u2 := ⟨⟨by omega, by omega⟩, by omega, by omega⟩
  refine Calls.mono (R := fun e w' => e = .returned (.bool true) ∧ Gr w w') ?_ (fun _ _ ⟨h, g⟩ => ⟨h, g.below⟩)
  have l1 := numLess_c b0 b1 i0 u0 i1 u1 m0 m1
  have e1 := numEqual_c b0 b1 i0 u0 i1 u1 m0 m1
  have l2 := numLess_c b1 b0 i1 u1 i0 u0 m1 m0
  have q1 := numLessEq_c b0 b1 i0 u0 i1 u1 m0 m1
  have q2 := numLessEq_c b1 b0 i1 u1 i0 u0 m1 m0
  have n1 := lawNan_c b0 i0 u0 m0.2.1 m0.2.2
  have n2 := lawNan_c b1 i1 u1 m1.2.1 m1.2.2
  by_cases hn : nanN b0 u0 = true ∨ nanN b1 u1 = true
  · have hs : ordI b0 i0 u0 b1 i1 u1 = 2 ∧ ordI b1 i1 u1 b0 i0 u0 = 2 := ⟨ord_nan _ _ _ _ _ _ hn, ord_nan _ _ _ _ _ _ hn.symm⟩
    unfold lessN at l1 l2
    unfold equalN at e1
    unfold lessEqN at q1 q2
    rw [hs.1] at l1 e1 q1
    rw [hs.2] at l2 q2
    refine numThree_nan b0 b1 b2 i0 u0 i1 u1 i2 u2 _ _ w ?_ l1 e1 l2 q1 q2 n1 n2
    cases hm : nanN b0 u0 with
    | true => exact Or.inl rfl
    | false => exact Or.inr ⟨rfl, hn.elim (fun h => by rw [hm] at h; cases h) id⟩
  · have g0 : nanN b0 u0 = false := by
      cases h : nanN b0 u0
      · rfl
      · exact absurd (Or.inl h) hn
    have g1 : nanN b1 u1 = false := by
      cases h : nanN b1 u1
      · rfl
      · exact absurd (Or.inr h) hn
    rw [g0] at n1
    rw [g1] at n2
    have o1 := ord_num b0 b1 i0 u0 i1 u1 g0 g1
    have o2 := ord_num b1 b0 i1 u1 i0 u0 g1 g0
    have oa := ord_num b0 b0 i0 u0 i0 u0 g0 g0
    have e2 := numEqual_c b1 b0 i1 u1 i0 u0 m1 m0
    have q3 := numLessEq_c b1 b2 i1 u1 i2 u2 m1 m2
    have q4 := numLessEq_c b0 b2 i0 u0 i2 u2 m0 m2
    have l3 := numLess_c b0 b2 i0 u0 i2 u2 m0 m2
    have e3 := numEqual_c b1 b2 i1 u1 i2 u2 m1 m2
    have e4 := numEqual_c b0 b2 i0 u0 i2 u2 m0 m2
    have e5 := numEqual_c b0 b0 i0 u0 i0 u0 m0 m0
    have y5 : equalN b0 i0 u0 b0 i0 u0 = true := by unfold equalN; rw [oa, cmpI_eq rfl]; rfl
    rw [y5] at e5
    have x1' : lessEqN b0 i0 u0 b1 i1 u1 = !(lessN b1 i1 u1 b0 i0 u0) := by unfold lessEqN lessN; rw [o1, o2]; exact cmp_le _ _
    have x2' : lessEqN b1 i1 u1 b0 i0 u0 = !(lessN b0 i0 u0 b1 i1 u1) := by unfold lessEqN lessN; rw [o1, o2]; exact cmp_le _ _
    have x3' : equalN b1 i1 u1 b0 i0 u0 = equalN b0 i0 u0 b1 i1 u1 := by unfold equalN; rw [o1, o2]; exact cmp_sym _ _
    rw [x1'] at q1
    rw [x2'] at q2
    rw [x3'] at e2
    refine numThree_core b0 b1 b2 i0 u0 i1 u1 i2 u2 _ _ _ _ _ _ _ _ w ?_ ?_ ?_ ?_ l1 e1 l2 q1 q2 e2 q3 q4 l3 e3 e4 e5 n1 n2
    · unfold lessN equalN
      rw [o1, o2]
      exact cmp_one _ _
    · unfold lessN lessEqN
      rw [o2]
      by_cases g2 : nanN b2 u2 = true
      · rw [ord_nan b1 b2 i1 u1 i2 u2 (Or.inr g2)]
        intro _ h; cases h
      · have g2' : nanN b2 u2 = false := by simpa using g2
        rw [ord_num b1 b2 i1 u1 i2 u2 g1 g2', ord_num b0 b2 i0 u0 i2 u2 g0 g2']
        exact cmp_t1 _ _ _
    · unfold lessN lessEqN
      rw [o1]
      by_cases g2 : nanN b2 u2 = true
      · rw [ord_nan b1 b2 i1 u1 i2 u2 (Or.inr g2)]
        intro _ h; cases h
      · have g2' : nanN b2 u2 = false := by simpa using g2
        rw [ord_num b1 b2 i1 u1 i2 u2 g1 g2', ord_num b0 b2 i0 u0 i2 u2 g0 g2']
        exact cmp_t2 _ _ _
    · unfold equalN
      rw [o1]
      by_cases g2 : nanN b2 u2 = true
      · rw [ord_nan b1 b2 i1 u1 i2 u2 (Or.inr g2), ord_nan b0 b2 i0 u0 i2 u2 (Or.inr g2)]
        intro _; rfl
      · have g2' : nanN b2 u2 = false := by simpa using g2
        rw [ord_num b1 b2 i1 u1 i2 u2 g1 g2', ord_num b0 b2 i0 u0 i2 u2 g0 g2']
        exact cmp_t3 _ _ _
end Go.Proofs.Ytpbcplgpbafjpaa.W
