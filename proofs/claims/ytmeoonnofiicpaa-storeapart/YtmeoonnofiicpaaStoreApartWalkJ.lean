import Derived.Test.YtmeoonnofiicpaaS9aJ
import Derived.Test.YtmeoonnofiicpaaStorePlaysWalkJ
/- StoreApart: the walk. -/
namespace Go.Proofs.Ytmeoonnofiicpaa.W
open Go.ChangeShapes Go.WideShapes Go.RowKit Go.Shelf
set_option linter.unusedVariables false
set_option linter.unusedSimpArgs false
namespace R5
section
variable {B0 : Nat} {W W' w' : World} {K K' : Nat → Prop} {sb rb tb qb M M1 M2 n : Nat} {A A1 A2 : List (Option (List Nat))} {a : Si.A6}
theorem bo_on (h : Bo B0 W K sb rb A M n) (hU : ∀ k, K k → k < W.heap.size → W'.heap[k]? = W.heap[k]?) (hz : W.heap.size ≤ W'.heap.size) : Bo B0 W' K sb rb A M n := by
  obtain ⟨S, l, v, h1, h2, h3, h4, h5⟩ := h
  exact ⟨S, l, v, h1.on (fun k e => hU k (h4 k e).2.2 (h4 k e).2.1), h2.on (fun k e => hU k (h5 k e) (h2.blk_lt k e).2), h3, fun k e => ⟨(h4 k e).1, by have := (h4 k e).2.1; omega, (h4 k e).2.2⟩, h5⟩
theorem bo_lt (h : Bo B0 W K sb rb A M n) : Bo B0 W (fun k => K k ∧ B0 ≤ k ∧ k < W.heap.size) sb rb A M n := by
  obtain ⟨S, l, v, h1, h2, h3, h4, h5⟩ := h
  exact ⟨S, l, v, h1, h2, h3, fun k e => ⟨(h4 k e).1, (h4 k e).2.1, (h4 k e).2.2, (h4 k e).1, (h4 k e).2.1⟩, fun k e => ⟨h5 k e, h2.blk_lt k e⟩⟩
theorem bo_mk {S : Nat → Prop} (hS : St W S sb [] 0 n) (hs : ∀ k, S k → k = sb) (ht : W.heap[rb]? = some (.cells #[.slice none 0 0, .int .i64 0] 29)) (h1 : B0 ≤ sb) (h2 : sb < W.heap.size) (h3 : B0 ≤ rb) (h4 : sb ≠ rb) : Bo B0 W (fun k => k = sb ∨ k = rb) sb rb [] 0 n := by
  have hm : ∀ k, Mine5 rb ([] : List En) (.slice none 0 0) k → k = rb := by
    rintro k (e | e | ⟨e, he, _⟩)
    · exact e
    · cases e
    · cases he
  refine ⟨_, [], .slice none 0 0, hS, ⟨ht, World.ownsRow_nil _ _ _ _, rfl, fun e he => (by cases he), List.nodup_nil, fun e he => (by cases he), (by intro e; cases e), ⟨by omega, fun e he => (by cases he)⟩, fun x hx => (by cases hx), (by simp), fun x hx => (by cases hx)⟩, ?_, ?_, ?_⟩
  · intro k e c
    have := hm k c
    have := hs k e
    omega
  · intro k e
    have := hs k e
    exact ⟨by omega, by omega, .inl this⟩
  · intro k e
    exact .inr (hm k e)
/-- two stores, each with its reference -/
def Tw (B0 : Nat) (W : World) (sb rb tb qb : Nat) (A1 : List (Option (List Nat))) (M1 : Nat) (A2 : List (Option (List Nat))) (M2 n : Nat) : Prop :=
  ∃ K1 K2 : Nat → Prop, (∀ k, K1 k → ¬ K2 k) ∧ (∀ k, K1 k → B0 ≤ k ∧ k < W.heap.size) ∧ (∀ k, K2 k → B0 ≤ k ∧ k < W.heap.size) ∧ Bo B0 W K1 sb rb A1 M1 n ∧ Bo B0 W K2 tb qb A2 M2 n
theorem Tw.swap (h : Tw B0 W sb rb tb qb A1 M1 A2 M2 n) : Tw B0 W tb qb sb rb A2 M2 A1 M1 n := by
  obtain ⟨K1, K2, h1, h2, h3, h4, h5⟩ := h
  exact ⟨K2, K1, fun k e c => h1 k c e, h3, h2, h5, h4⟩
theorem Tw.below (h : Tw B0 W sb rb tb qb A1 M1 A2 M2 n) (hB : Below W.heap.size W w') : Tw B0 w' sb rb tb qb A1 M1 A2 M2 n := by
  obtain ⟨K1, K2, h1, h2, h3, h4, h5⟩ := h
  have hz := hB.size
  exact ⟨K1, K2, h1, fun k e => ⟨(h2 k e).1, by have := (h2 k e).2; omega⟩, fun k e => ⟨(h3 k e).1, by have := (h3 k e).2; omega⟩, bo_below h4 hB, bo_below h5 hB⟩
theorem Tw.act (h : Tw B0 W sb rb tb qb A1 M1 A2 M2 n) (hw : a.wf) (hA : A1.length < n) (hA2 : A1.length < 1000) (hM : M1 + 8388608 ≤ 100000000000) : Calls Try.prog 7 #[(Value.pointer (some ⟨sb, 0, none⟩)), (Value.pointer (some ⟨rb, 0, none⟩)), .agg #[.int .i64 a.what, .int .i64 a.n, .int .i64 a.id, .int .i64 a.off, .int .i64 a.wd, .int .u64 a.x]] W fun e w' => e = .returned (.bool true) ∧ Upd (fun k => B0 ≤ k) W w' ∧ ∃ A' M', Tw B0 w' sb rb tb qb A' M' A2 M2 n ∧ A'.length ≤ A1.length + 1 ∧ M' ≤ M1 + 8388608 := by
  obtain ⟨K1, K2, h1, h2, h3, h4, h5⟩ := h
  refine (act_c h4 hw hA hA2 hM).mono ?_
  rintro e w' ⟨rfl, hU, A', M', bo, hA', hM'⟩
  refine ⟨rfl, ⟨hU.os, hU.tape, hU.output, hU.size, fun k e hn => hU.block k e (fun c => hn (h2 k c).1)⟩, A', M', ⟨_, K2, ?_, ?_, ?_, bo_lt bo, ?_⟩, hA', hM'⟩
  · rintro k ⟨e | e, _⟩ c
    · exact h1 k e c
    · have := (h3 k c).2
      omega
  · rintro k ⟨_, e⟩
    exact e
  · intro k e
    have := (h3 k e).2
    have := hU.size
    exact ⟨(h3 k e).1, by omega⟩
  · exact bo_on h5 (fun k e l => hU.block k l (fun c => h1 k c e)) hU.size
end
set_option maxRecDepth 100000 in
theorem sa_long (o : Option Addr) (l c : Nat) (t : Value) (h : 300 < l) (w : World) : Calls Try.prog 4 #[.slice o l c, t] w fun e w' => e = .returned (.bool true) ∧ Below w.heap.size w w' := by
  have h1 : (l : Int) > 300 := by omega
  clear h
  go_enter Try.func4, Try.ntmps4
  go_wp2
  go_ret
  exact ⟨rfl, Below.refl _ _⟩
set_option maxRecDepth 100000 in
set_option maxHeartbeats 4000000 in
theorem sa_main (o : Option Addr) (l c : Nat) (F : Nat → Si.A6) (ot : Option Addr) (lt ct : Nat) (T : Nat → Bool) (hl : l ≤ 300) (w : World) (R : Si.Acts6 w o l c F) (RT : Si.BoolsAt w ot lt ct T) : Calls Try.prog 4 #[.slice o l c, .slice ot lt ct] w fun e w' => e = .returned (.bool true) ∧ Below w.heap.size w w' := by
  have h1 : ¬ (l : Int) > 300 := by omega
  have cb := Si.big_c R hl
  have cn := fun w => new_st w 0 1000 (by omega) (by omega)
  have HR := hid (And.intro R RT)
  clear R RT
  go_enter Try.func4, Try.ntmps4
  go_upto_region 3 with (go_at_call 5; (with_reducible refine cb.mono ?_); rintro e w2 ⟨b, rfl, hw2⟩; (have hw' := hw2.symm); subst hw'; clear hw2 cb; cases b)
  · have cm := cn
    go_upto_region 4 with (first | (go_at_call 6; (with_reducible refine (cm _).mono ?_); rintro e w1 ⟨rfl, hS1, hB1, hz1⟩; clear cm) | (go_at_call 6; (with_reducible refine (cn _).mono ?_); rintro e w2 ⟨rfl, hS, hB, hz⟩))
    go_upto_region 5 with fail
    have TW : Tw w.heap.size ((w2.alloc (.cells #[.slice none 0 0, .int .i64 0] 29)).alloc (.cells #[.slice none 0 0, .int .i64 0] 29)) w.heap.size (w.heap.size + 1 + 1) (w.heap.size + 1) (w.heap.size + 1 + 1 + 1) [] 0 [] 0 1000 := by
      have n1 := World.alloc_heap_new w2 (.cells #[.slice none 0 0, .int .i64 0] 29)
      have n2 := World.alloc_heap_new (w2.alloc (.cells #[.slice none 0 0, .int .i64 0] 29)) (.cells #[.slice none 0 0, .int .i64 0] 29)
      have bA : Below w2.heap.size w2 ((w2.alloc (.cells #[.slice none 0 0, .int .i64 0] 29)).alloc (.cells #[.slice none 0 0, .int .i64 0] 29)) := ((Below.refl _ w2).alloc (Nat.le_refl _) _).alloc (by simp) _
      have n1' : ((w2.alloc (.cells #[.slice none 0 0, .int .i64 0] 29)).alloc (.cells #[.slice none 0 0, .int .i64 0] 29)).heap[w2.heap.size]? = some (.cells #[.slice none 0 0, .int .i64 0] 29) := (Below.heap_alloc _ _ _ (by simp)).trans n1
      have z : ((w2.alloc (.cells #[.slice none 0 0, .int .i64 0] 29)).alloc (.cells #[.slice none 0 0, .int .i64 0] 29)).heap.size = w2.heap.size + 2 := by simp
      rw [World.size_alloc] at n2
      rw [hz, hz1] at n1' n2
      rw [hz1] at hS hz hB
      generalize (w2.alloc (.cells #[.slice none 0 0, .int .i64 0] 29)).alloc (.cells #[.slice none 0 0, .int .i64 0] 29) = W3 at *
      refine ⟨_, _, ?_, ?_, ?_, bo_mk (hS1.on (fun k e => (bA.block k (by omega)).trans (hB.block k (by omega)))) (fun k e => e) n1' (by omega) (by omega) (by omega) (by omega), bo_mk (hS.on (fun k e => bA.block k (by omega))) (fun k e => e) n2 (by omega) (by omega) (by omega) (by omega)⟩
      · omega
      · omega
      · omega
    have bW : Below w.heap.size w ((w2.alloc (.cells #[.slice none 0 0, .int .i64 0] 29)).alloc (.cells #[.slice none 0 0, .int .i64 0] 29)) := (hB1.trans (hB.mono (by omega))).trans ((((Below.refl _ w2).alloc (Nat.le_refl _) _).alloc (by simp) _).mono (by omega))
    have BO := hid (And.intro TW bW)
    clear TW bW hS hS1 hB hB1 hz hz1 cn
    generalize (w2.alloc (.cells #[.slice none 0 0, .int .i64 0] 29)).alloc (.cells #[.slice none 0 0, .int .i64 0] 29) = W3 at *
    go_wp2
    go_loopw [9] (fun ii wr => ∃ (i : Nat) (A1 : List (Option (List Nat))) (M1 : Nat) (A2 : List (Option (List Nat))) (M2 : Nat), i ≤ l ∧ ii = .int .i64 (i : Nat) ∧ Tw w.heap.size wr w.heap.size (w.heap.size + 1 + 1) (w.heap.size + 1) (w.heap.size + 1 + 1 + 1) A1 M1 A2 M2 1000 ∧ (A1.length ≤ i ∧ M1 ≤ i * 8388608 ∧ A2.length ≤ i ∧ M2 ≤ i * 8388608) ∧ Below w.heap.size w wr) (fun ii _ => l - (intOf ii).toNat)
    case atStart => exact ⟨0, [], 0, [], 0, Nat.zero_le _, rfl, BO.out.1, ⟨Nat.zero_le _, Nat.zero_le _, Nat.zero_le _, Nat.zero_le _⟩, BO.out.2⟩
    case round =>
      obtain ⟨i, A1, M1, A2, M2, hi, rfl, tw, hA, hB⟩ := hrel
      by_cases hin : i < l
      · rcases HR.out.1 with ⟨_, h0⟩ | ⟨ad, rfl, hlc, hcm, hall⟩
        · omega
        obtain ⟨hwf, hcell⟩ := hall i hin
        have cw : ∀ j, j < 6 → wr.cell? (ad.add (i * 6 + j)) = (F i).cells[j]? := by
          intro j hj
          rw [← hcell j hj]
          refine World.cell?_of_block (hB.block _ ?_)
          have e := hcell j hj
          obtain ⟨y, hy⟩ : ∃ y, (F i).cells[j]? = some y := ⟨_, List.getElem?_eq_getElem (by simpa [Si.A6.cells] using hj)⟩
          rw [hy] at e
          exact World.block_lt_of_cell? w _ e
        have c0 := cw 0 (by omega)
        have c1 := cw 1 (by omega)
        have c2 := cw 2 (by omega)
        have c3 := cw 3 (by omega)
        have c4 := cw 4 (by omega)
        have c5 := cw 5 (by omega)
        rw [Nat.add_zero] at c0
        rw [Si.add_far ad (i * 6) 1 (by omega)] at c1
        rw [Si.add_far ad (i * 6) 2 (by omega)] at c2
        rw [Si.add_far ad (i * 6) 3 (by omega)] at c3
        rw [Si.add_far ad (i * 6) 4 (by omega)] at c4
        rw [Si.add_far ad (i * 6) 5 (by omega)] at c5
        simp only [Si.A6.cells, List.getElem?_cons_zero, List.getElem?_cons_succ] at c0 c1 c2 c3 c4 c5
        have ca := tw.act hwf (by omega) (by omega) (by omega)
        have cb := tw.swap.act hwf (by omega) (by omega) (by omega)
        have k0 : (0 : Int) ≤ i := Int.natCast_nonneg _
        have k1 : (i : Int) < l := by omega
        have wk : IntKind.i64.wrap ((i : Int) + 1) = (i : Int) + 1 := by rw [IntKind.wrap_i64]; omega
        have HM := hid (show l - ((i : Int) + 1).toNat < l - ((i : Int)).toNat by omega)
        have KP := hid (And.intro hin (And.intro hA hB))
        have fin1 : ∀ w4, Upd (fun k => w.heap.size ≤ k) wr w4 → (∃ A' M', Tw w.heap.size w4 w.heap.size (w.heap.size + 1 + 1) (w.heap.size + 1) (w.heap.size + 1 + 1 + 1) A' M' A2 M2 1000 ∧ A'.length ≤ A1.length + 1 ∧ M' ≤ M1 + 8388608) → ∃ (i' : Nat) (A1 : List (Option (List Nat))) (M1 : Nat) (A2 : List (Option (List Nat))) (M2 : Nat), i' ≤ l ∧ Value.int .i64 ((i : Int) + 1) = .int .i64 (i' : Nat) ∧ Tw w.heap.size w4 w.heap.size (w.heap.size + 1 + 1) (w.heap.size + 1) (w.heap.size + 1 + 1 + 1) A1 M1 A2 M2 1000 ∧ (A1.length ≤ i' ∧ M1 ≤ i' * 8388608 ∧ A2.length ≤ i' ∧ M2 ≤ i' * 8388608) ∧ Below w.heap.size w w4 := by
          rintro w4 hU ⟨A', M', t', h1, h2⟩
          exact ⟨i + 1, A', M', A2, M2, by omega, rfl, t', ⟨by omega, by omega, by omega, by omega⟩, hB.trans (hU.below hB.size (fun k e => e))⟩
        have fin2 : ∀ w4, Upd (fun k => w.heap.size ≤ k) wr w4 → (∃ A' M', Tw w.heap.size w4 (w.heap.size + 1) (w.heap.size + 1 + 1 + 1) w.heap.size (w.heap.size + 1 + 1) A' M' A1 M1 1000 ∧ A'.length ≤ A2.length + 1 ∧ M' ≤ M2 + 8388608) → ∃ (i' : Nat) (A1 : List (Option (List Nat))) (M1 : Nat) (A2 : List (Option (List Nat))) (M2 : Nat), i' ≤ l ∧ Value.int .i64 ((i : Int) + 1) = .int .i64 (i' : Nat) ∧ Tw w.heap.size w4 w.heap.size (w.heap.size + 1 + 1) (w.heap.size + 1) (w.heap.size + 1 + 1 + 1) A1 M1 A2 M2 1000 ∧ (A1.length ≤ i' ∧ M1 ≤ i' * 8388608 ∧ A2.length ≤ i' ∧ M2 ≤ i' * 8388608) ∧ Below w.heap.size w w4 := by
          rintro w4 hU ⟨A', M', t', h1, h2⟩
          exact ⟨i + 1, A1, M1, A', M', by omega, rfl, t'.swap, ⟨by omega, by omega, by omega, by omega⟩, hB.trans (hU.below hB.size (fun k e => e))⟩
        have F1 := hid fin1
        have F2 := hid fin2
        have hT : ((i : Int) < lt ∧ ∃ at' b, ot = some at' ∧ lt ≤ ct ∧ wr.cell? (at'.add i) = some (.bool b)) ∨ ¬ (i : Int) < lt := by
          by_cases hlt : i < lt
          · refine .inl ⟨by omega, ?_⟩
            rcases HR.out.2 with ⟨_, h0⟩ | ⟨at', rfl, hlc2, hcm2, hall2⟩
            · omega
            · refine ⟨at', T i, rfl, hlc2, ?_⟩
              rw [← hall2 i hlt]
              exact World.cell?_of_block (hB.block _ (World.block_lt_of_cell? w _ (hall2 i hlt)))
          · exact .inr (by omega)
        generalize F i = q at *
        clear hall hcell cw hlc hcm HR tw hA hB hi hin hwf BO fin1 fin2
        rcases hT with ⟨ht, at', b, rfl, hlc2, hb⟩ | ht
        · cases b
          · clear cb
            go_wp2_with (go_at_call 7; (with_reducible refine ca.mono ?_); rintro e w4 ⟨rfl, aft⟩; clear ca)
            go_roundw
            case rel => exact F1.out _ aft.1 aft.2
            case measure => exact HM.out
          · clear ca
            go_wp2_with (go_at_call 7; (with_reducible refine cb.mono ?_); rintro e w4 ⟨rfl, aft⟩; clear cb)
            go_roundw
            case rel => exact F2.out _ aft.1 aft.2
            case measure => exact HM.out
        · clear cb
          go_wp2_with (go_at_call 7; (with_reducible refine ca.mono ?_); rintro e w4 ⟨rfl, aft⟩; clear ca)
          go_roundw
          case rel => exact F1.out _ aft.1 aft.2
          case measure => exact HM.out
      · have k1 : ¬ (i : Int) < l := by omega
        have HB := hid (And.intro tw hB)
        obtain ⟨K1, K2, _, _, _, b1, b2⟩ := tw
        have cs := bo_same b1
        have ct' : ∀ w', Below wr.heap.size wr w' → Calls Try.prog 9 #[Value.pointer (some ⟨w.heap.size + 1, 0, none⟩), Value.pointer (some ⟨w.heap.size + 1 + 1 + 1, 0, none⟩)] w' fun e w2 => e = .returned (.bool true) ∧ Below w'.heap.size w' w2 := fun w' h => bo_same (bo_below b2 h)
        have HT := hid ct'
        clear hi hin hA hB BO HR b1 b2 ct'
        go_wp2_with (first | (go_at_call 9; (with_reducible refine cs.mono ?_); rintro e w4 ⟨rfl, b4⟩; clear cs; have ct' := HT.out _ b4) | (go_at_call 9; (with_reducible refine ct'.mono ?_); rintro e w5 ⟨rfl, b5⟩; clear ct') | (go_at_call 10; (with_reducible refine (awake_c _).mono ?_); rintro e w6 ⟨rfl, b6⟩))
        go_ret
        have h1 := HB.out.2.trans (b4.mono HB.out.2.size)
        have h2 := h1.trans (b5.mono h1.size)
        exact ⟨rfl, h2.trans (b6.mono h2.size)⟩
  · go_ret
    exact ⟨rfl, Below.refl _ _⟩
end R5
theorem storeApart_walk (o0 : Option Addr) (l0 c0 : Nat) (N0 : Nat → Si.A6) (o1 : Option Addr) (l1 c1 : Nat) (N1 : Nat → Bool) (w : World) (R0 : Si.Acts6 w o0 l0 c0 N0) (R1 : Si.BoolsAt w o1 l1 c1 N1) : Calls Try.prog 4 #[.slice o0 l0 c0, .slice o1 l1 c1] w fun e w' => e = .returned (.bool true) ∧ Below w.heap.size w w' := by
  by_cases h : 300 < l0
  · exact R5.sa_long o0 l0 c0 _ h w
  · exact R5.sa_main o0 l0 c0 N0 o1 l1 c1 N1 (by omega) w R0 R1
end Go.Proofs.Ytmeoonnofiicpaa.W
