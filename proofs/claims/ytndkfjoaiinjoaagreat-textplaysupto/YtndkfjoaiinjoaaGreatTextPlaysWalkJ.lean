import Derived.Test.YtndkfjoaiinjoaaGreatBase45
import Derived.Test.YtndkfjoaiinjoaaGreatBase26
import Derived.Test.YtndkfjoaiinjoaaGreatTyuJ
/- TextPlays: the walk. -/
namespace Go.Proofs.YtndkfjoaiinjoaaGreat.W
open Go.ChangeShapes Go.WideShapes Go.RowKit Go.Shelf Si
set_option linter.unusedVariables false
set_option linter.unusedSimpArgs false
theorem add_far8 (a : Addr) (i j : Nat) (hj : 0 < j) : a.add (i + j) = ⟨(a.add i).block, (a.add i).off + j, none⟩ := by
  unfold Addr.add
  rw [if_neg (by omega)]
  by_cases h : i = 0
  · subst h; simp
  · rw [if_neg h]
    simp
    omega
theorem wf_on {w w' : World} {x : A8} (h : x.wf w) (hB : Below w.heap.size w w') : x.wf w' := by
  obtain ⟨h0, h1, h2, h3, h4, h5, h6⟩ := h
  refine ⟨h0, h1, h2, h3, h4, h5, fun j hj => ?_⟩
  obtain ⟨a, e1, e2⟩ := h6 j hj
  exact ⟨a, e1, below_cell hB e2⟩
theorem tl_nil : Tl [] [] [] [] (fun k => k) := by
  have no : ∀ k, ¬ hd [] k := fun k h => by have := hd_lt h; simp at this
  exact ⟨rfl, fun i c h => by simp at h, by simp, by simp, fun k h => absurd h (no k), fun j k h => absurd h (no j), fun n v w h => by simp at h, fun v h => by simp at h, fun w h => by simp at h⟩
theorem pool_new {w w2 : World} {hb u : Nat} (hu : u ≤ 1000) (hf : Hf w w2 hb [] u (fun k => k < w.heap.size)) : Pool8 w (w2.heap.size + 1) hb w2.heap.size u 0 ((w2.alloc (.cells #[.int .i64 (u : Nat), .slice none 0 0] 56)).alloc (.cells #[.pointer (some ⟨hb, 0, none⟩), .pointer (some ⟨w2.heap.size, 0, none⟩), .slice none 0 0, .slice none 0 0] 59)) := by
  have z1 : (w2.alloc (.cells #[.int .i64 (u : Nat), .slice none 0 0] 56)).heap.size = w2.heap.size + 1 := World.size_alloc ..
  have z2 : ((w2.alloc (.cells #[.int .i64 (u : Nat), .slice none 0 0] 56)).alloc (.cells #[.pointer (some ⟨hb, 0, none⟩), .pointer (some ⟨w2.heap.size, 0, none⟩), .slice none 0 0, .slice none 0 0] 59)).heap.size = w2.heap.size + 2 := by rw [World.size_alloc, z1]
  have b1 : Below w2.heap.size w2 (w2.alloc (.cells #[.int .i64 (u : Nat), .slice none 0 0] 56)) := (Below.refl _ _).alloc (Nat.le_refl _) _
  have b2 : Below (w2.alloc (.cells #[.int .i64 (u : Nat), .slice none 0 0] 56)).heap.size (w2.alloc (.cells #[.int .i64 (u : Nat), .slice none 0 0] 56)) ((w2.alloc (.cells #[.int .i64 (u : Nat), .slice none 0 0] 56)).alloc (.cells #[.pointer (some ⟨hb, 0, none⟩), .pointer (some ⟨w2.heap.size, 0, none⟩), .slice none 0 0, .slice none 0 0] 59)) := (Below.refl _ _).alloc (Nat.le_refl _) _
  have d1 := World.alloc_heap_new w2 (.cells #[.int .i64 (u : Nat), .slice none 0 0] 56)
  have d2 := World.alloc_heap_new (w2.alloc (.cells #[.int .i64 (u : Nat), .slice none 0 0] 56)) (.cells #[.pointer (some ⟨hb, 0, none⟩), .pointer (some ⟨w2.heap.size, 0, none⟩), .slice none 0 0, .slice none 0 0] 59)
  rw [z1] at d2
  have d3 := (b2.block w2.heap.size (by omega)).trans d1
  have zw := hf.bel.size
  have bb := b1.trans (b2.mono b1.size)
  refine ⟨.slice none 0 0, .slice none 0 0, .slice none 0 0, [], [], [], [], fun k => k, ⟨⟨d2, ⟨d3, World.ownsRow_nil _ _ _ _, (by intro e; cases e), by simp⟩, World.ownsRow_nil _ _ _ _, World.ownsRow_nil _ _ _ _, rfl, fun v hv => (by cases hv), by simp⟩, ⟨by omega, (by intro e; cases e), (by intro e; cases e), (by intro e; cases e), (by intro e; cases e), (by intro e; cases e), (by intro k e; cases e), (by intro k e; cases e), (by intro k e; cases e)⟩, tl_nil, (hf.below bb).sub ?_, ?_, fun v hv => (by cases hv), hu⟩, by simp, by simp⟩
  · rintro k (e | e | e | e | e)
    · exact .inr ⟨by omega, by omega⟩
    · exact .inr ⟨by omega, by omega⟩
    · cases e
    · cases e
    · cases e
  · rintro k (e | e | e | e | e)
    · omega
    · omega
    · cases e
    · cases e
    · cases e
set_option maxRecDepth 100000 in
theorem tp_no (n : Int) (o : Option Addr) (l c : Nat) (h : 150 < l ∨ n < 0 ∨ 1000 < n) (w : World) : Calls Tryz.prog 6 #[.int .i64 n, .slice o l c] w fun e w' => e = .returned (.bool true) ∧ Below w.heap.size w w' := by
  by_cases h1 : (l : Int) > 150
  · clear h
    go_enter Tryz.func6, Tryz.ntmps6
    go_wp2
    go_ret
    exact ⟨rfl, Below.refl _ _⟩
  by_cases h2 : n < 0
  · clear h
    go_enter Tryz.func6, Tryz.ntmps6
    go_wp2
    go_ret
    exact ⟨rfl, Below.refl _ _⟩
  · have h3 : n > 1000 := by omega
    clear h
    go_enter Tryz.func6, Tryz.ntmps6
    go_wp2
    go_ret
    exact ⟨rfl, Below.refl _ _⟩
set_option maxRecDepth 100000 in
set_option maxHeartbeats 4000000 in
theorem tp_main (u : Nat) (hu : u ≤ 1000) (o : Option Addr) (l c : Nat) (F : Nat → A8) (hl : l ≤ 150) (w : World) (R : Acts8 w o l c F) (hr : ∀ i, i < l → (F i).l ≤ 1100000) : Calls Tryz.prog 6 #[.int .i64 u, .slice o l c] w fun e w' => e = .returned (.bool true) ∧ Below w.heap.size w w' := by
  have h1 : ¬ (l : Int) > 150 := by omega
  have h2 : ¬ (u : Int) < 0 := by omega
  have h3 : ¬ (u : Int) > 1000 := by omega
  have cn := hf_new (Below.refl w.heap.size w) u (by omega)
  have HR := hid (And.intro R hr)
  have HU := hid hu
  clear R hr hu
  go_enter Tryz.func6, Tryz.ntmps6
  go_upto_region 7 with (go_at_call 7; (with_reducible refine cn.mono ?_); rintro e w2 ⟨hb, rfl, hf, hB2⟩; (have PN := hid (pool_new HU.out hf)); clear cn hf hB2)
  generalize (w2.alloc (.cells #[.int .i64 (u : Nat), .slice none 0 0] 56)).alloc (.cells #[.pointer (some ⟨hb, 0, none⟩), .pointer (some ⟨w2.heap.size, 0, none⟩), .slice none 0 0, .slice none 0 0] 59) = W3 at *
  generalize w2.heap.size = rb at *
  clear h1 h2 h3 HU
  go_wp2
  go_loopw [8] (fun ii wr => ∃ i : Nat, i ≤ l ∧ ii = .int .i64 (i : Nat) ∧ Pool8 w (rb + 1) hb rb u i wr) (fun ii _ => l - (intOf ii).toNat)
  case atStart => exact ⟨0, Nat.zero_le _, rfl, PN.out⟩
  case round =>
    obtain ⟨i, hi, rfl, hp⟩ := hrel
    by_cases hin : i < l
    · obtain ⟨R, hr⟩ := HR.out
      rcases R with ⟨_, h0⟩ | ⟨ad, rfl, hlc, hcm, hall⟩
      · omega
      obtain ⟨hwf, hcell⟩ := hall i hin
      have hB := hp.bel
      have cw : ∀ j, j < 8 → wr.cell? (ad.add (i * 8 + j)) = (F i).cells[j]? := by
        intro j hj
        rw [← hcell j hj]
        refine World.cell?_of_block (hB.block _ ?_)
        have e := hcell j hj
        obtain ⟨y, hy⟩ : ∃ y, (F i).cells[j]? = some y := ⟨_, List.getElem?_eq_getElem (by simpa [A8.cells] using hj)⟩
        rw [hy] at e
        exact World.block_lt_of_cell? w _ e
      have c0 := cw 0 (by omega)
      have c1 := cw 1 (by omega)
      have c2 := cw 2 (by omega)
      have c3 := cw 3 (by omega)
      have c4 := cw 4 (by omega)
      have c5 := cw 5 (by omega)
      have c6 := cw 6 (by omega)
      have c7 := cw 7 (by omega)
      rw [Nat.add_zero] at c0
      rw [add_far8 ad (i * 8) 1 (by omega)] at c1
      rw [add_far8 ad (i * 8) 2 (by omega)] at c2
      rw [add_far8 ad (i * 8) 3 (by omega)] at c3
      rw [add_far8 ad (i * 8) 4 (by omega)] at c4
      rw [add_far8 ad (i * 8) 5 (by omega)] at c5
      rw [add_far8 ad (i * 8) 6 (by omega)] at c6
      rw [add_far8 ad (i * 8) 7 (by omega)] at c7
      simp only [A8.cells, List.getElem?_cons_zero, List.getElem?_cons_succ] at c0 c1 c2 c3 c4 c5 c6 c7
      have k0 : (0 : Int) ≤ i := Int.natCast_nonneg _
      have k1 : (i : Int) < l := by omega
      by_cases ht : (F i).text.size ≤ 500
      · have ca := act_c hp (by omega) (F i) (wf_on hwf hB) (hr i hin) ht
        have wk : IntKind.i64.wrap ((i : Int) + 1) = (i : Int) + 1 := by rw [IntKind.wrap_i64]; omega
        have HM := hid (show l - ((i : Int) + 1).toNat < l - ((i : Int)).toNat by omega)
        have kt : ¬ ((F i).text.size : Int) > 500 := by omega
        have HI := hid (show i + 1 ≤ l from hin)
        generalize F i = q at *
        clear hall hcell cw hlc hcm HR hp hB hi hin hwf PN hr ht
        go_wp2_with (go_at_call 18; (with_reducible refine ca.mono ?_); rintro e w4 ⟨rfl, hp4⟩; clear ca)
        go_roundw
        case rel => exact ⟨i + 1, HI.out, rfl, hp4⟩
        case measure => exact HM.out
      · have kt : ((F i).text.size : Int) > 500 := by omega
        have HB := hid hB
        generalize F i = q at *
        clear hall hcell cw hlc hcm HR hp hB hi hin hwf PN hr ht
        go_wp2
        go_ret
        exact ⟨rfl, HB.out⟩
    · have k1 : ¬ (i : Int) < l := by omega
      obtain ⟨lv, wv, vv, L, ws, vs, H, f, I, hm1, hm2⟩ := hp
      obtain ⟨_, S, q, _⟩ := id I.hf
      have hBw := I.hf.bel
      obtain ⟨ov, capv, hvv⟩ := slice_of I.pl.vrow
      have p3 : wr.cell? ⟨rb + 1, 3, none⟩ = some vv := cell_of_row _ _ 3 _ _ _ I.pl.blk
      rw [hvv] at p3
      have HP := hid (show ∀ w5, Below wr.heap.size wr w5 → w5.cell? ⟨rb + 1, 3, none⟩ = some (.slice ov vs.length capv) from fun w5 hB => below_cell hB p3)
      have cA := hid (show ∀ w5, Below wr.heap.size wr w5 → ∀ k : Nat, Calls Tryz.prog 19 #[.pointer (some ⟨rb + 1, 0, none⟩), .int .i64 k] w5 fun e w' => e = .returned (.bool (aliveB L vs k)) ∧ Below w5.heap.size w5 w' from fun w5 hB k => alive_c (I.pl.below hB) k)
      have cT := hid (show ∀ w5, Below wr.heap.size wr w5 → ∀ k : Nat, aliveB L vs k = true → Calls Tryz.prog 20 #[.pointer (some ⟨rb + 1, 0, none⟩), .int .i64 k] w5 fun e w' => e = .returned (.bool true) ∧ Below w5.heap.size w5 w' by
        intro w5 hB k ha
        obtain ⟨n, v, e, hv, hal⟩ := I.tl.alive ha
        have e' : k = n := by omega
        subst e'
        obtain ⟨y, hy⟩ : ∃ y, ws[k]? = some y := ⟨_, List.getElem?_eq_getElem (by rw [I.tl.len]; exact (List.getElem?_eq_some_iff.1 hv).1)⟩
        exact tells_c (I.pl.below hB) (q.below hB) k v y hv hy (I.tl.isv hv hy hal (I.wt v (List.mem_of_getElem? hv))))
      have NV := hid I.pl.few
      have HB := hid hBw
      generalize vs.length = m at *
      clear I q hBw hvv p3 hm1 hm2 hi hin PN HR
      go_wp2
      go_loopw [9] (fun jj w5 => ∃ j : Nat, j ≤ m ∧ jj = .int .i64 (j : Nat) ∧ Below wr.heap.size wr w5) (fun jj _ => m - (intOf jj).toNat)
      case atStart => exact ⟨0, Nat.zero_le _, rfl, Below.refl _ _⟩
      case round =>
        obtain ⟨j, hj, rfl, hB5⟩ := hrel
        have hB5' := hid hB5
        have g3 := HP.out wr hB5
        have k0 : (0 : Int) ≤ j := Int.natCast_nonneg _
        by_cases hjm : j < m
        · have k2 : (j : Int) < m := by omega
          have wk : IntKind.i64.wrap ((j : Int) + 1) = (j : Int) + 1 := by have := NV.out; rw [IntKind.wrap_i64]; omega
          have HM := hid (show m - ((j : Int) + 1).toNat < m - ((j : Int)).toNat by omega)
          have ca := cA.out wr hB5 j
          cases hal : aliveB L vs j with
          | true =>
            rw [hal] at ca
            have CT := hid (show ∀ w6, Below wr.heap.size wr w6 → Calls Tryz.prog 20 #[.pointer (some ⟨rb + 1, 0, none⟩), .int .i64 (j : Nat)] w6 fun e w' => e = .returned (.bool true) ∧ Below w6.heap.size w6 w' from fun w6 hB => cT.out w6 (hB5'.out.trans (hB.mono hB5'.out.size)) j hal)
            clear hB5 cA cT HP hj
            go_wp2_with (first | (go_at_call 19; (with_reducible refine ca.mono ?_); rintro e w6 ⟨rfl, hB6⟩; (have ct := CT.out w6 hB6); clear ca) | (go_at_call 20; (with_reducible refine ct.mono ?_); rintro e w7 ⟨rfl, hB7⟩; clear ct))
            go_roundw
            case rel =>
              have b1 := hB5'.out.trans (hB6.mono hB5'.out.size)
              exact ⟨j + 1, hjm, rfl, b1.trans (hB7.mono b1.size)⟩
            case measure => exact HM.out
          | false =>
            rw [hal] at ca
            clear hB5 cA cT HP hj
            go_wp2_with (go_at_call 19; (with_reducible refine ca.mono ?_); rintro e w6 ⟨rfl, hB6⟩; clear ca)
            go_roundw
            case rel => exact ⟨j + 1, hjm, rfl, hB5'.out.trans (hB6.mono hB5'.out.size)⟩
            case measure => exact HM.out
        · have k2 : ¬ (j : Int) < m := by omega
          clear hB5 cA cT HP hj
          go_wp2_with (go_at_call 12; (with_reducible refine (awake8_c _).mono ?_); rintro e w6 ⟨rfl, hB6⟩)
          go_ret
          have b1 := hB5'.out.trans (hB6.mono hB5'.out.size)
          exact ⟨rfl, HB.out.trans (b1.mono HB.out.size)⟩
theorem textPlays_walk (n0 : Int) (x0 : (Lit.int .i64 n0).wf = true) (o1 : Option Addr) (l1 c1 : Nat) (N1 : Nat → A8) (w : World) (R1 : Acts8 w o1 l1 c1 N1) (hr : ∀ i, i < l1 → (N1 i).l ≤ 1048576) : Calls Tryz.prog 6 #[.int .i64 n0, .slice o1 l1 c1] w fun e w' => e = .returned (.bool true) ∧ Below w.heap.size w w' := by
  by_cases h : 150 < l1 ∨ n0 < 0 ∨ 1000 < n0
  · exact tp_no n0 o1 l1 c1 h w
  · obtain ⟨u, rfl⟩ : ∃ u : Nat, n0 = u := ⟨n0.toNat, by omega⟩
    exact tp_main u (by omega) o1 l1 c1 N1 (by omega) w R1 (fun i hi => by have := hr i hi; omega)
end Go.Proofs.YtndkfjoaiinjoaaGreat.W
