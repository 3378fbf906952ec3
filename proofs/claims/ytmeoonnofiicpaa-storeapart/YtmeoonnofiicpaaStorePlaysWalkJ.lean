import Derived.Test.YtmeoonnofiicpaaS8oJ
import Derived.Test.YtmeoonnofiicpaaBase4
/- StorePlays: the walk. -/
namespace Go.Proofs.Ytmeoonnofiicpaa.W
open Go.ChangeShapes Go.WideShapes Go.RowKit Go.Shelf
set_option linter.unusedVariables false
set_option linter.unusedSimpArgs false
namespace R5
theorem bo_new (w : World) (n : Nat) (hn : n ≤ 100000000) : Calls Try.prog 6 #[] w fun e w' => e = .returned (.pointer (some ⟨w.heap.size, 0, none⟩)) ∧ Below w.heap.size w w' ∧ w'.heap.size = w.heap.size + 1 ∧ Bo w.heap.size (w'.alloc (.cells #[.slice none 0 0, .int .i64 0] 29)) (fun k => w.heap.size ≤ k) w.heap.size (w.heap.size + 1) [] 0 n := by
  refine (new_st w 0 n (by omega) hn).mono ?_
  rintro e w' ⟨rfl, hS, hB, hz⟩
  have bA : Below w'.heap.size w' (w'.alloc (.cells #[.slice none 0 0, .int .i64 0] 29)) := (Below.refl _ _).alloc (Nat.le_refl _) _
  have dA := World.alloc_heap_new w' (.cells #[.slice none 0 0, .int .i64 0] 29)
  rw [hz] at dA
  have zA : (w'.alloc (.cells #[.slice none 0 0, .int .i64 0] 29)).heap.size = w.heap.size + 2 := by rw [World.size_alloc, hz]
  have hm : ∀ k, Mine5 (w.heap.size + 1) ([] : List En) (.slice none 0 0) k → k = w.heap.size + 1 := by
    rintro k (e | e | ⟨e, he, _⟩)
    · exact e
    · cases e
    · cases he
  refine ⟨rfl, hB, hz, _, [], .slice none 0 0, hS.on (fun k e => bA.block k (by omega)), ⟨dA, World.ownsRow_nil _ _ _ _, rfl, fun e he => (by cases he), List.nodup_nil, fun e he => (by cases he), (by intro e; cases e), ⟨by omega, fun e he => (by cases he)⟩, fun x hx => (by cases hx), (by simp), fun x hx => (by cases hx)⟩, ?_, ?_, ?_⟩
  · intro k e c
    have := hm k c
    omega
  · intro k e
    exact ⟨by omega, by omega, by omega⟩
  · intro k e
    have := hm k e
    omega
section
variable {B0 : Nat} {W : World} {K : Nat → Prop} {sb rb M n : Nat} {A : List (Option (List Nat))}
theorem bo_lies (h : Bo B0 W K sb rb A M n) (hM : M ≤ 100000000000) : Calls Try.prog 8 #[(Value.pointer (some ⟨sb, 0, none⟩)), (Value.pointer (some ⟨rb, 0, none⟩))] W fun e w' => ∃ v, e = .returned (.tuple #[v, .bool true]) ∧ Below W.heap.size W w' := by
  obtain ⟨S, l, v, h1, h2, h3, h4, h5⟩ := h
  obtain ⟨R, T, sd, hR⟩ := sd_of h1 (fun k e => (h4 k e).2.1)
  refine (lies_c sd h2 hR hM).mono ?_
  rintro e w' ⟨v, rfl, hB, _⟩
  exact ⟨v, rfl, hB⟩
theorem bo_same (h : Bo B0 W K sb rb A M n) : Calls Try.prog 9 #[(Value.pointer (some ⟨sb, 0, none⟩)), (Value.pointer (some ⟨rb, 0, none⟩))] W fun e w' => e = .returned (.bool true) ∧ Below W.heap.size W w' := by
  obtain ⟨S, l, v, h1, h2, h3, h4, h5⟩ := h
  exact same_c h1 (fun k e => (h4 k e).2.1) h2
theorem bo_sub {K' : Nat → Prop} (h : Bo B0 W K sb rb A M n) (hk : ∀ k, K k → K' k) : Bo B0 W K' sb rb A M n := by
  obtain ⟨S, l, v, h1, h2, h3, h4, h5⟩ := h
  exact ⟨S, l, v, h1, h2, h3, fun k e => ⟨(h4 k e).1, (h4 k e).2.1, hk k (h4 k e).2.2⟩, fun k e => hk k (h5 k e)⟩
end
set_option maxRecDepth 100000 in
theorem sp_long (o : Option Addr) (l c : Nat) (h : 300 < l) (w : World) : Calls Try.prog 3 #[.slice o l c] w fun e w' => e = .returned (.bool true) ∧ Below w.heap.size w w' := by
  have h1 : (l : Int) > 300 := by omega
  clear h
  go_enter Try.func3, Try.ntmps3
  go_wp2
  go_ret
  exact ⟨rfl, Below.refl _ _⟩
set_option maxRecDepth 100000 in
set_option maxHeartbeats 4000000 in
theorem sp_main (o : Option Addr) (l c : Nat) (F : Nat → Si.A6) (hl : l ≤ 300) (w : World) (R : Si.Acts6 w o l c F) : Calls Try.prog 3 #[.slice o l c] w fun e w' => e = .returned (.bool true) ∧ Below w.heap.size w w' := by
  have h1 : ¬ (l : Int) > 300 := by omega
  have cb := Si.big_c R hl
  have cn := bo_new w 1000 (by omega)
  have HR := hid R
  clear R
  go_enter Try.func3, Try.ntmps3
  go_upto_region 3 with (go_at_call 5; (with_reducible refine cb.mono ?_); rintro e w2 ⟨b, rfl, hw2⟩; (have hw' := hw2.symm); subst hw'; clear hw2 cb; cases b)
  · go_wp2_with (go_at_call 6; (with_reducible refine cn.mono ?_); rintro e w2 ⟨rfl, b2, z2, bo⟩; clear cn)
    have bA : Below w.heap.size w (w2.alloc (.cells #[.slice none 0 0, .int .i64 0] 29)) := b2.trans (((Below.refl _ _).alloc (Nat.le_refl _) _).mono (by omega))
    have BO := hid (And.intro bo bA)
    clear bo bA b2 z2
    generalize w2.alloc (.cells #[.slice none 0 0, .int .i64 0] 29) = W3 at *
    go_loopw [5, 6, 7] (fun ii _ _ wr => ∃ (i : Nat) (A : List (Option (List Nat))) (M : Nat), i ≤ l ∧ ii = .int .i64 (i : Nat) ∧ Bo w.heap.size wr (fun k => w.heap.size ≤ k) w.heap.size (w.heap.size + 1) A M 1000 ∧ A.length ≤ i ∧ M ≤ i * 8388608 ∧ Below w.heap.size w wr) (fun ii _ _ _ => l - (intOf ii).toNat)
    case atStart => exact ⟨0, [], 0, Nat.zero_le _, rfl, BO.out.1, Nat.zero_le _, Nat.zero_le _, BO.out.2⟩
    case round =>
      obtain ⟨i, A, M, hi, rfl, bo, hA, hM, hB⟩ := hrel
      by_cases hin : i < l
      · rcases HR.out with ⟨_, h0⟩ | ⟨ad, rfl, hlc, hcm, hall⟩
        · omega
        obtain ⟨hwf, hcell⟩ := hall i hin
        have cw : ∀ j, j < 6 → wr.cell? (ad.add (i * 6 + j)) = (F i).cells[j]? := by
          intro j hj
          rw [← hcell j hj]
          refine World.cell?_of_block (hB.block _ ?_)
          have e := hcell j hj
          obtain ⟨y, hy⟩ : ∃ y, (F i).cells[j]? = some y := ⟨_, List.getElem?_eq_getElem (by simpa [Si.A6.cells] using hj)⟩
          rw [hy] at e
          exact World.block_lt_of_cell? w _ e
        have c0 := cw 0 (by omega)
        have c1 := cw 1 (by omega)
        have c2 := cw 2 (by omega)
        have c3 := cw 3 (by omega)
        have c4 := cw 4 (by omega)
        have c5 := cw 5 (by omega)
        rw [Nat.add_zero] at c0
        rw [Si.add_far ad (i * 6) 1 (by omega)] at c1
        rw [Si.add_far ad (i * 6) 2 (by omega)] at c2
        rw [Si.add_far ad (i * 6) 3 (by omega)] at c3
        rw [Si.add_far ad (i * 6) 4 (by omega)] at c4
        rw [Si.add_far ad (i * 6) 5 (by omega)] at c5
        simp only [Si.A6.cells, List.getElem?_cons_zero, List.getElem?_cons_succ] at c0 c1 c2 c3 c4 c5
        have ca := act_c bo hwf (by omega) (by omega) (by omega)
        have k0 : (0 : Int) ≤ i := Int.natCast_nonneg _
        have k1 : (i : Int) < l := by omega
        have wk : IntKind.i64.wrap ((i : Int) + 1) = (i : Int) + 1 := by rw [IntKind.wrap_i64]; omega
        have HM := hid (show l - ((i : Int) + 1).toNat < l - ((i : Int)).toNat by omega)
        have KP := hid (And.intro hin (And.intro hA (And.intro hM hB)))
        generalize F i = q at *
        clear hall hcell cw hlc hcm HR bo hA hM hB hi hin hwf BO
        go_upto_region 12 with (go_at_call 7; (with_reducible refine ca.mono ?_); rintro e w4 ⟨rfl, aft⟩; clear ca)
        clear c0 c1 c2 c3 c4 c5
        obtain ⟨hin, hA, hM, hB⟩ := KP.out
        obtain ⟨hU, A', M', bo4, hA', hM'⟩ := aft
        have hzB := hB.size
        have bo5 := bo_sub bo4 (K' := fun k => w.heap.size ≤ k) (fun k e => by rcases e with e | e <;> omega)
        have hB4 : Below w.heap.size w w4 := hB.trans (hU.below hzB (fun k e => e))
        have cl := bo_lies bo5 (by omega)
        have K4 := hid (And.intro bo5 (And.intro hB4 (And.intro (show A'.length ≤ i + 1 by omega) (show M' ≤ (i + 1) * 8388608 by omega))))
        have HI := hid (show i + 1 ≤ l from hin)
        clear hU bo4 bo5 hA' hM' hzB hB4 hA hM hB hin KP
        go_wp2_with (go_at_call 8; (with_reducible refine cl.mono ?_); rintro e w5 ⟨v5, rfl, b5⟩; clear cl)
        go_roundw
        case rel =>
          obtain ⟨y1, y2, y3, y4⟩ := K4.out
          exact ⟨i + 1, A', M', HI.out, rfl, bo_below y1 b5, y3, y4, y2.trans (b5.mono y2.size)⟩
        case measure => exact HM.out
      · have k1 : ¬ (i : Int) < l := by omega
        have cs := bo_same bo
        have HB := hid hB
        clear hi hin hA hM hB bo BO HR
        go_wp2_with (first | (go_at_call 9; (with_reducible refine cs.mono ?_); rintro e w4 ⟨rfl, b4⟩; clear cs) | (go_at_call 10; (with_reducible refine (awake_c _).mono ?_); rintro e w5 ⟨rfl, b5⟩))
        go_ret
        have h1 := HB.out.trans (b4.mono HB.out.size)
        exact ⟨rfl, h1.trans (b5.mono h1.size)⟩
  · go_ret
    exact ⟨rfl, Below.refl _ _⟩
end R5
theorem storePlays_walk (o0 : Option Addr) (l0 c0 : Nat) (N0 : Nat → Si.A6) (w : World) (R0 : Si.Acts6 w o0 l0 c0 N0) : Calls Try.prog 3 #[.slice o0 l0 c0] w fun e w' => e = .returned (.bool true) ∧ Below w.heap.size w w' := by
  by_cases h : 300 < l0
  · exact R5.sp_long o0 l0 c0 h w
  · exact R5.sp_main o0 l0 c0 N0 (by omega) w R0
end Go.Proofs.Ytmeoonnofiicpaa.W
