import Derived.Test.YtaebnnkhjlidiaaBase8
import Derived.Test.YtaebnnkhjlidiaaCellOpenJ
/- HeapNeeds: the walk. -/
namespace Go.Proofs.Ytaebnnkhjlidiaa.W
open Go.ChangeShapes Go.WideShapes Go.RowKit Go.Shelf
set_option linter.unusedVariables false
/-- the call of Need answers z -/
def NeedIs (kd : Int) (vw : Bool) (i : Int) (t : ByteArray) (ob ow : Option Addr) (bl bc wl wc : Nat) (ba p n z : Int) : Prop := ∀ W : World, Calls Try.prog 9 #[.agg #[.int .i64 kd, .bool vw, .int .i64 i, .string t, .slice ob bl bc, .slice ow wl wc, .int .u64 ba, .int .i64 p, .int .i64 n]] W fun e w' => e = .returned (.int .i64 z) ∧ Below W.heap.size W w'
theorem need_is (kd : Int) (vw : Bool) (i : Int) (t : ByteArray) (ob ow : Option Addr) (bl bc wl wc : Nat) (ba p n : Int) (h1 : t.size ≤ 10000) (h2 : bl ≤ 10000) (h3 : wl ≤ 10000) (m : Nat) (z : Int) (hm : sizeV kd vw t.size bl wl = m) (hz : z = (1 + (m + 7) / 8 : Nat)) : NeedIs kd vw i t ob ow bl bc wl wc ba p n z := by
  intro W
  have := need_c kd vw i t ob ow bl bc wl wc ba p n (by omega) (by omega) (by omega) W
  rw [hm, ← hz] at this
  exact this
set_option maxHeartbeats 8000000 in
theorem heapNeeds_walk (kd : Int) (vw : Bool) (i : Int) (t : ByteArray) (ob ow : Option Addr) (bl bc wl wc : Nat) (ba p n : Int) (w : World) :
    Calls Try.prog 3 #[.agg #[.int .i64 kd, .bool vw, .int .i64 i, .string t, .slice ob bl bc, .slice ow wl wc, .int .u64 ba, .int .i64 p, .int .i64 n]] w fun e w' => e = .returned (.bool true) ∧ Below w.heap.size w w' := by
  have hB := (show Below w.heap.size w (w.alloc (.cells #[.int .i64 kd, .bool vw, .int .i64 i, .string t, .slice ob bl bc, .slice ow wl wc, .int .u64 ba, .int .i64 p, .int .i64 n] 26)) from (Below.refl _ w).alloc (Nat.le_refl _) _)
  by_cases h1 : t.size > 10000
  · have h1' : (t.size : Int) > 10000 := by omega
    go_enter Try.func3, Try.ntmps3
    go_wp2
    go_ret
    exact ⟨rfl, hB⟩
  by_cases h2 : bl > 10000
  · have h1' : ¬ (t.size : Int) > 10000 := by omega
    have h2' : (bl : Int) > 10000 := by omega
    go_enter Try.func3, Try.ntmps3
    go_wp2
    go_ret
    exact ⟨rfl, hB⟩
  by_cases h3 : wl > 10000
  · have h1' : ¬ (t.size : Int) > 10000 := by omega
    have h2' : ¬ (bl : Int) > 10000 := by omega
    have h3' : (wl : Int) > 10000 := by omega
    go_enter Try.func3, Try.ntmps3
    go_wp2
    go_ret
    exact ⟨rfl, hB⟩
  have h1' : ¬ (t.size : Int) > 10000 := by omega
  have h2' : ¬ (bl : Int) > 10000 := by omega
  have h3' : ¬ (wl : Int) > 10000 := by omega
  have n9 := World.cell?_alloc_new w #[.int .i64 kd, .bool vw, .int .i64 i, .string t, .slice ob bl bc, .slice ow wl wc, .int .u64 ba, .int .i64 p, .int .i64 n] 26
  have fin : ∀ w2 w3, Below (w.alloc (.cells #[.int .i64 kd, .bool vw, .int .i64 i, .string t, .slice ob bl bc, .slice ow wl wc, .int .u64 ba, .int .i64 p, .int .i64 n] 26)).heap.size (w.alloc (.cells #[.int .i64 kd, .bool vw, .int .i64 i, .string t, .slice ob bl bc, .slice ow wl wc, .int .u64 ba, .int .i64 p, .int .i64 n] 26)) w2 → Below w2.heap.size w2 w3 → Below w.heap.size w w3 := fun w2 w3 a b => (hB.trans (a.mono hB.size)).trans (b.mono (Nat.le_trans hB.size a.size))
  have ca := fun W => awake6_c W
  have FIN := hid fin
  clear fin hB
  by_cases k2 : kd = 2
  · subst k2
    cases vw
    · have cn := need_is 2 false i t ob ow bl bc wl wc ba p n (by omega) (by omega) (by omega) 8 2 (by rfl) (by rfl)
      unfold NeedIs at cn
      go_enter Try.func3, Try.ntmps3
      go_wp2_with (first | (go_at_call 9; (with_reducible refine (cn _).mono ?_); rintro e w2 ⟨rfl, hB2⟩; clear cn) | (go_at_call 10; (with_reducible refine (ca _).mono ?_); rintro e w3 ⟨rfl, hB3⟩; clear ca))
      go_ret
      exact ⟨rfl, FIN.out _ _ hB2 hB3⟩
    · have cn := need_is 2 true i t ob ow bl bc wl wc ba p n (by omega) (by omega) (by omega) 0 1 (by rfl) (by rfl)
      unfold NeedIs at cn
      go_enter Try.func3, Try.ntmps3
      go_wp2_with (first | (go_at_call 9; (with_reducible refine (cn _).mono ?_); rintro e w2 ⟨rfl, hB2⟩; clear cn) | (go_at_call 10; (with_reducible refine (ca _).mono ?_); rintro e w3 ⟨rfl, hB3⟩; clear ca))
      go_ret
      exact ⟨rfl, FIN.out _ _ hB2 hB3⟩
  by_cases k4 : kd = 4
  · subst k4
    cases vw
    · have cn := need_is 4 false i t ob ow bl bc wl wc ba p n (by omega) (by omega) (by omega) t.size _ (by rfl) rfl
      unfold NeedIs at cn
      go_enter Try.func3, Try.ntmps3
      go_wp2_with (first | (go_at_call 9; (with_reducible refine (cn _).mono ?_); rintro e w2 ⟨rfl, hB2⟩; clear cn) | (go_at_call 10; (with_reducible refine (ca _).mono ?_); rintro e w3 ⟨rfl, hB3⟩; clear ca))
      go_ret
      exact ⟨rfl, FIN.out _ _ hB2 hB3⟩
    · have cn := need_is 4 true i t ob ow bl bc wl wc ba p n (by omega) (by omega) (by omega) 0 1 (by rfl) (by rfl)
      unfold NeedIs at cn
      go_enter Try.func3, Try.ntmps3
      go_wp2_with (first | (go_at_call 9; (with_reducible refine (cn _).mono ?_); rintro e w2 ⟨rfl, hB2⟩; clear cn) | (go_at_call 10; (with_reducible refine (ca _).mono ?_); rintro e w3 ⟨rfl, hB3⟩; clear ca))
      go_ret
      exact ⟨rfl, FIN.out _ _ hB2 hB3⟩
  by_cases k5 : kd = 5
  · subst k5
    cases vw
    · have cn := need_is 5 false i t ob ow bl bc wl wc ba p n (by omega) (by omega) (by omega) bl _ (by rfl) rfl
      unfold NeedIs at cn
      go_enter Try.func3, Try.ntmps3
      go_wp2_with (first | (go_at_call 9; (with_reducible refine (cn _).mono ?_); rintro e w2 ⟨rfl, hB2⟩; clear cn) | (go_at_call 10; (with_reducible refine (ca _).mono ?_); rintro e w3 ⟨rfl, hB3⟩; clear ca))
      go_ret
      exact ⟨rfl, FIN.out _ _ hB2 hB3⟩
    · have cn := need_is 5 true i t ob ow bl bc wl wc ba p n (by omega) (by omega) (by omega) 0 1 (by rfl) (by rfl)
      unfold NeedIs at cn
      go_enter Try.func3, Try.ntmps3
      go_wp2_with (first | (go_at_call 9; (with_reducible refine (cn _).mono ?_); rintro e w2 ⟨rfl, hB2⟩; clear cn) | (go_at_call 10; (with_reducible refine (ca _).mono ?_); rintro e w3 ⟨rfl, hB3⟩; clear ca))
      go_ret
      exact ⟨rfl, FIN.out _ _ hB2 hB3⟩
  by_cases k6 : kd = 6
  · subst k6
    cases vw
    · have cn := need_is 6 false i t ob ow bl bc wl wc ba p n (by omega) (by omega) (by omega) bl _ (by rfl) rfl
      unfold NeedIs at cn
      go_enter Try.func3, Try.ntmps3
      go_wp2_with (first | (go_at_call 9; (with_reducible refine (cn _).mono ?_); rintro e w2 ⟨rfl, hB2⟩; clear cn) | (go_at_call 10; (with_reducible refine (ca _).mono ?_); rintro e w3 ⟨rfl, hB3⟩; clear ca))
      go_ret
      exact ⟨rfl, FIN.out _ _ hB2 hB3⟩
    · have cn := need_is 6 true i t ob ow bl bc wl wc ba p n (by omega) (by omega) (by omega) 0 1 (by rfl) (by rfl)
      unfold NeedIs at cn
      go_enter Try.func3, Try.ntmps3
      go_wp2_with (first | (go_at_call 9; (with_reducible refine (cn _).mono ?_); rintro e w2 ⟨rfl, hB2⟩; clear cn) | (go_at_call 10; (with_reducible refine (ca _).mono ?_); rintro e w3 ⟨rfl, hB3⟩; clear ca))
      go_ret
      exact ⟨rfl, FIN.out _ _ hB2 hB3⟩
  by_cases k7 : kd = 7
  · subst k7
    cases vw
    · have cn := need_is 7 false i t ob ow bl bc wl wc ba p n (by omega) (by omega) (by omega) bl _ (by rfl) rfl
      unfold NeedIs at cn
      go_enter Try.func3, Try.ntmps3
      go_wp2_with (first | (go_at_call 9; (with_reducible refine (cn _).mono ?_); rintro e w2 ⟨rfl, hB2⟩; clear cn) | (go_at_call 10; (with_reducible refine (ca _).mono ?_); rintro e w3 ⟨rfl, hB3⟩; clear ca))
      go_ret
      exact ⟨rfl, FIN.out _ _ hB2 hB3⟩
    · have cn := need_is 7 true i t ob ow bl bc wl wc ba p n (by omega) (by omega) (by omega) 0 1 (by rfl) (by rfl)
      unfold NeedIs at cn
      go_enter Try.func3, Try.ntmps3
      go_wp2_with (first | (go_at_call 9; (with_reducible refine (cn _).mono ?_); rintro e w2 ⟨rfl, hB2⟩; clear cn) | (go_at_call 10; (with_reducible refine (ca _).mono ?_); rintro e w3 ⟨rfl, hB3⟩; clear ca))
      go_ret
      exact ⟨rfl, FIN.out _ _ hB2 hB3⟩
  by_cases k8 : kd = 8
  · subst k8
    cases vw
    · have cn := need_is 8 false i t ob ow bl bc wl wc ba p n (by omega) (by omega) (by omega) bl _ (by rfl) rfl
      unfold NeedIs at cn
      go_enter Try.func3, Try.ntmps3
      go_wp2_with (first | (go_at_call 9; (with_reducible refine (cn _).mono ?_); rintro e w2 ⟨rfl, hB2⟩; clear cn) | (go_at_call 10; (with_reducible refine (ca _).mono ?_); rintro e w3 ⟨rfl, hB3⟩; clear ca))
      go_ret
      exact ⟨rfl, FIN.out _ _ hB2 hB3⟩
    · have cn := need_is 8 true i t ob ow bl bc wl wc ba p n (by omega) (by omega) (by omega) 0 1 (by rfl) (by rfl)
      unfold NeedIs at cn
      go_enter Try.func3, Try.ntmps3
      go_wp2_with (first | (go_at_call 9; (with_reducible refine (cn _).mono ?_); rintro e w2 ⟨rfl, hB2⟩; clear cn) | (go_at_call 10; (with_reducible refine (ca _).mono ?_); rintro e w3 ⟨rfl, hB3⟩; clear ca))
      go_ret
      exact ⟨rfl, FIN.out _ _ hB2 hB3⟩
  by_cases k9 : kd = 9
  · subst k9
    cases vw
    · have cn := need_is 9 false i t ob ow bl bc wl wc ba p n (by omega) (by omega) (by omega) (wl * 8) (1 + (wl : Int)) (by rfl) (by omega)
      unfold NeedIs at cn
      go_enter Try.func3, Try.ntmps3
      go_wp2_with (first | (go_at_call 9; (with_reducible refine (cn _).mono ?_); rintro e w2 ⟨rfl, hB2⟩; clear cn) | (go_at_call 10; (with_reducible refine (ca _).mono ?_); rintro e w3 ⟨rfl, hB3⟩; clear ca))
      go_ret
      exact ⟨rfl, FIN.out _ _ hB2 hB3⟩
    · have cn := need_is 9 true i t ob ow bl bc wl wc ba p n (by omega) (by omega) (by omega) 0 1 (by rfl) (by rfl)
      unfold NeedIs at cn
      go_enter Try.func3, Try.ntmps3
      go_wp2_with (first | (go_at_call 9; (with_reducible refine (cn _).mono ?_); rintro e w2 ⟨rfl, hB2⟩; clear cn) | (go_at_call 10; (with_reducible refine (ca _).mono ?_); rintro e w3 ⟨rfl, hB3⟩; clear ca))
      go_ret
      exact ⟨rfl, FIN.out _ _ hB2 hB3⟩
  have hs : ∀ v, sizeV kd v t.size bl wl = 0 := by
    intro v
    have e : elB kd = 0 := by unfold elB; simp [k5, k6, k7, k8]
    have es : shp kd v = 0 := by unfold shp; rw [e]; cases v <;> simp [k2, k4, k9]
    unfold sizeV; rw [es]; rfl
  cases vw
  · have cn := need_is kd false i t ob ow bl bc wl wc ba p n (by omega) (by omega) (by omega) 0 1 (hs _) (by rfl)
    unfold NeedIs at cn
    go_enter Try.func3, Try.ntmps3
    go_wp2_with (first | (go_at_call 9; (with_reducible refine (cn _).mono ?_); rintro e w2 ⟨rfl, hB2⟩; clear cn) | (go_at_call 10; (with_reducible refine (ca _).mono ?_); rintro e w3 ⟨rfl, hB3⟩; clear ca))
    go_ret
    exact ⟨rfl, FIN.out _ _ hB2 hB3⟩
  · have cn := need_is kd true i t ob ow bl bc wl wc ba p n (by omega) (by omega) (by omega) 0 1 (hs _) (by rfl)
    unfold NeedIs at cn
    go_enter Try.func3, Try.ntmps3
    go_wp2_with (first | (go_at_call 9; (with_reducible refine (cn _).mono ?_); rintro e w2 ⟨rfl, hB2⟩; clear cn) | (go_at_call 10; (with_reducible refine (ca _).mono ?_); rintro e w3 ⟨rfl, hB3⟩; clear ca))
    go_ret
    exact ⟨rfl, FIN.out _ _ hB2 hB3⟩
end Go.Proofs.Ytaebnnkhjlidiaa.W
