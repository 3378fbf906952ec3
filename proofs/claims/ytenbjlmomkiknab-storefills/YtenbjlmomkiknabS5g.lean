/- Package store: the blocks of the ring, one behind the other: the iterator. -/
import Derived.Test.YtenbjlmomkiknabS5c
import Derived.Test.YtenbjlmomkiknabS5f
namespace Go.Proofs.Ytenbjlmomkiknab.W
open Go.ChangeShapes Go.WideShapes Go.RowKit Go.Shelf
set_option linter.unusedVariables false

theorem from_c (W : World) (sb : Nat) (n : Int) : Calls Try.prog 58 #[.pointer (some ⟨sb, 0, none⟩), .int .i64 n] W fun e w' => e = .returned (.func (.func 85) #[] #[.pointer (some ⟨W.heap.size + 1, 0, none⟩), .pointer (some ⟨W.heap.size, 0, none⟩)]) ∧ w' = (W.alloc (.cells #[.pointer (some ⟨sb, 0, none⟩)] 47)).alloc (.cells #[.int .i64 n] 3) := by
  go_enter Try.func58, Try.ntmps58
  go_wp2
  go_ret
  exact ⟨rfl, rfl⟩
/-- how far the iterator is -/
def idxAt (xs : List Nat) (Bn : Nat) (W : World) : Nat := xs.findIdx (fun x : Nat => decide ((W.cell? ⟨Bn, 0, none⟩).map intOf = some (x : Int)))
theorem idxAt_eq (xs : List Nat) (Bn : Nat) (W : World) (i : Nat) (hi : i < xs.length) (hd : xs.Nodup) (hc : W.cell? ⟨Bn, 0, none⟩ = some (.int .i64 (xs[i] : Nat))) : idxAt xs Bn W = i := by
  unfold idxAt
  rw [List.findIdx_eq hi]
  refine ⟨by simp [hc, intOf], fun j hj => ?_⟩
  simp only [hc, Option.map_some, intOf, decide_eq_false_iff_not, Option.some.injEq]
  intro e
  have e' : xs[i] = xs[j] := by omega
  exact List.pairwise_iff_getElem.1 hd j i (by omega) hi hj e'.symm
set_option maxHeartbeats 1000000 in
theorem from1_in (n l Bn Bs sb : Nat) (hn : 1 ≤ n) (xs : List Nat) (hne : 0 < xs.length) (hd : xs.Nodup) (J K : Nat → World → Prop) (E X : World → Prop)
    (hY : ∀ i (hi : i < xs.length) W, J i W → YieldAt Fence.wide (n - 1) Try.prog l #[.int .i64 (xs[i] : Nat)] W fun e W' => (e = .returned (.bool true) ∧ K i W') ∨ (e = .returned (.bool false) ∧ X W'))
    (hJ : ∀ i (hi : i < xs.length) W, J i W → W.cell? ⟨Bn, 0, none⟩ = some (.int .i64 (xs[i] : Nat)))
    (hK : ∀ i (hi : i < xs.length) W, K i W → W.cell? ⟨Bn, 0, none⟩ = some (.int .i64 (xs[i] : Nat)) ∧ W.frozen? ⟨Bn, 0, none⟩ = false ∧ W.cell? ⟨Bs, 0, none⟩ = some (.pointer (some ⟨sb, 0, none⟩)) ∧ ∃ B O, Calls Try.prog 59 #[.pointer (some ⟨sb, 0, none⟩), .int .i64 (xs[i] : Nat)] W (fun e w' => e = .returned (.pointer (some ⟨B, O, none⟩)) ∧ w' = W) ∧ W.cell? ⟨B, O + 4, none⟩ = some (.int .i64 (xs[i + 1]?.getD 0 : Nat)))
    (hS : ∀ i (hi : i + 1 < xs.length) W, K i W → xs[i + 1] ≠ 0 ∧ J (i + 1) (W.setCell ⟨Bn, 0, none⟩ (.int .i64 (xs[i + 1] : Nat))))
    (hE : ∀ i W, i + 1 = xs.length → K i W → E (W.setCell ⟨Bn, 0, none⟩ (.int .i64 0)))
    (W : World) (h0 : J 0 W) :
    CallsIn Fence.wide n Try.prog 85 #[.func (.yield l) #[] #[], .pointer (some ⟨Bn, 0, none⟩), .pointer (some ⟨Bs, 0, none⟩)] W fun e W' => (∃ v, e = .returned v) ∧ (E W' ∨ X W') := by
  refine callsIn_of_wp Try.func85 rfl trivial ?_ rfl
  simp only [Try.ntmps85, List.size_toArray, List.length_cons, List.length_nil, Nat.reduceAdd, Nat.reduceSub, Array.replicate_succ, Array.replicate_zero, List.push_toArray, List.append_toArray, List.nil_append, List.cons_append]
  gi_wp2
  gi_loopw [5] (fun _ wr => ∃ i, i < xs.length ∧ J i wr) (fun _ wr => xs.length - idxAt xs Bn wr)
  case atStart => exact ⟨0, hne, h0⟩
  case round =>
    obtain ⟨i, hi, hJi⟩ := hrel
    have c1 := hJ i hi wr hJi
    obtain ⟨fn, tmps, assign, body, hy, hR⟩ := hY i hi wr hJi
    gi_wp2
    refine hR.mono ?_
    rintro e W3 (⟨rfl, hK3⟩ | ⟨rfl, hX3⟩)
    · obtain ⟨k1, k2, k3, B, O, cb, k4⟩ := hK i hi W3 hK3
      by_cases hlast : i + 1 < xs.length
      · obtain ⟨hz, hJ4⟩ := hS i hlast W3 hK3
        have ex : xs[i + 1]?.getD 0 = xs[i + 1] := by simp [hlast]
        rw [ex] at k4
        have hz' : (((xs[i + 1] : Nat) : Int) == 0) = false := by simp; omega
        have k5 : (W3.setCell ⟨Bn, 0, none⟩ (.int .i64 (xs[i + 1] : Nat))).cell? ⟨Bn, 0, none⟩ = some (.int .i64 (xs[i + 1] : Nat)) := World.cell?_setCell_same' _ _ _ (by rw [k1]; rfl)
        have hm : Hid (idxAt xs Bn (W3.setCell ⟨Bn, 0, none⟩ (.int .i64 (xs[i + 1] : Nat))) = i + 1) := idxAt_eq xs Bn _ (i + 1) hlast hd k5
        have hm0 : Hid (idxAt xs Bn wr = i) := idxAt_eq xs Bn _ i hi hd c1
        have HJ := hid hJ4
        clear hJ4 hY hJ hK hS hE hJi hy
        gi_wp2_with ((refine ⟨trivial, ?_⟩); gi_at_call 59; (refine (callsIn_wide.2 cb).mono ?_); rintro e w' ⟨rfl, hw⟩; (have hw' := hw.symm); subst hw'; clear hw)
        go_roundw
        case rel => exact ⟨i + 1, hlast, HJ⟩
        case measure => rw [hm.out, hm0.out]; omega
      · have ex : xs[i + 1]?.getD 0 = 0 := by simp [List.getElem?_eq_none (by omega : xs.length ≤ i + 1)]
        rw [ex] at k4
        have hE4 := hid (hE i W3 (by omega) hK3)
        have k5 : (W3.setCell ⟨Bn, 0, none⟩ (.int .i64 0)).cell? ⟨Bn, 0, none⟩ = some (.int .i64 0) := World.cell?_setCell_same' _ _ _ (by rw [k1]; rfl)
        clear hY hJ hK hS hE hJi hy
        gi_wp2_with ((refine ⟨trivial, ?_⟩); gi_at_call 59; (refine (callsIn_wide.2 cb).mono ?_); rintro e w' ⟨rfl, hw⟩; (have hw' := hw.symm); subst hw'; clear hw)
        refine bodyPost_ret (results_none rfl _ _ _) rfl ?_
        exact ⟨⟨_, rfl⟩, .inl hE4.out⟩
    · clear hY hJ hK hS hE hJi hy
      gi_wp2
      go_end0
      exact ⟨⟨_, rfl⟩, .inr hX3⟩
end Go.Proofs.Ytenbjlmomkiknab.W
