/- The walk of the statement that what is saved wide is loaded narrow. -/
import Derived.Test.YtjnoobdbbpdilaaS5p
import Derived.OpenShut
namespace Go.Proofs.Ytjnoobdbbpdilaa.W
open Go.ChangeShapes Go.WideShapes Go.RowKit Go.Shelf
set_option linter.unusedVariables false

/-- the byte at a place, if x is saved at 8 * m -/
def byteAt (x m j : Nat) : Nat := if 8 * m ≤ j ∧ j < 8 * m + 8 then x / 256 ^ (j - 8 * m) % 256 else 0
theorem byteAt_lt (x m j : Nat) : byteAt x m j < 256 := by unfold byteAt; split <;> omega
/-- the row behind the saving -/
def wideRow (N m x : Nat) : List Nat := saved (List.replicate (N + 8) 0) (0 + 8 * m) x 8
theorem wideRow_len (N m x : Nat) : (wideRow N m x).length = N + 8 := by rw [wideRow, saved_len]; simp
theorem wideRow_get (N m x j : Nat) (hm : 8 * m + 8 ≤ N) (hj : j < N + 8) : (wideRow N m x)[j]? = some (byteAt x m j) := by
  rw [wideRow, saved_get _ _ _ _ _ (by simp; omega), byteAt]
  simp only [Nat.zero_add]
  split
  · rfl
  · simp [hj]
theorem wideRow_byte (N m x : Nat) (hm : 8 * m + 8 ≤ N) : ∀ b ∈ wideRow N m x, b < 256 := by
  intro b hb
  obtain ⟨j, hj, e⟩ := List.mem_iff_getElem.1 hb
  have := wideRow_get N m x j hm (by rw [wideRow_len] at hj; exact hj)
  rw [List.getElem?_eq_getElem hj] at this
  have e2 := Option.some.inj this
  rw [← e, e2]
  exact byteAt_lt _ _ _
theorem leN_drop (l : List Nat) (c : Nat) (h : c < l.length) : leN (l.drop c) = l[c] + 256 * leN (l.drop (c + 1)) := by
  rw [List.drop_eq_getElem_cons h]; rfl
theorem and255 (x q : Nat) (hx : x < 18446744073709551616) : bits .and .u64 ((x : Int) / 2 ^ (8 * q)) 255 = ((x / 256 ^ q % 256 : Nat) : Int) := by
  have e : (x : Int) / 2 ^ (8 * q) = ((x / 2 ^ (8 * q) : Nat) : Int) := by simp
  have hle : x / 2 ^ (8 * q) ≤ x := Nat.div_le_self _ _
  rw [e, show (255 : Int) = ((255 : Nat) : Int) from rfl, u64_and_nat _ _ (by omega) (by decide), show (255 : Nat) = 2 ^ 8 - 1 from rfl, Nat.and_two_pow_sub_one_eq_mod, pow8']
theorem want_in (x wt q : Nat) (hx : x < 18446744073709551616) (hw : wt < 72057594037927936) : bits .or .u64 (IntKind.u64.wrap ((wt : Int) * 256)) (bits .and .u64 ((x : Int) / 2 ^ (8 * q)) 255) = ((x / 256 ^ q % 256 + 256 * wt : Nat) : Int) := by
  rw [and255 x q hx]
  have e1 : IntKind.u64.wrap ((wt : Int) * 256) = ((wt * 256 : Nat) : Int) := by rw [IntKind.wrap_u64]; omega
  have hb : x / 256 ^ q % 256 < 256 := Nat.mod_lt _ (by decide)
  rw [e1, u64_or_nat _ _ (by omega) (by omega), nat_join 8 (wt * 256) _ (by omega) (by omega)]
  omega
theorem want_out (wt : Nat) (hw : wt < 72057594037927936) : IntKind.u64.wrap ((wt : Int) * 256) = ((0 + 256 * wt : Nat) : Int) := by rw [IntKind.wrap_u64]; omega
theorem drop_lt (sg : List Nat) (d wd : Nat) (hl : sg.length = wd) (h8 : wd ≤ 8) (hb : ∀ i (hi : i < sg.length), sg[i] < 256) : leN (sg.drop (d + 1)) < 72057594037927936 := by
  have h1 := leN_lt (sg.drop (d + 1)) (fun y hy => by
    obtain ⟨i, hi, e⟩ := List.mem_iff_getElem.1 (List.mem_of_mem_drop hy)
    rw [← e]; exact hb i hi)
  have h2 : (sg.drop (d + 1)).length ≤ 7 := by rw [List.length_drop]; omega
  have h3 := Nat.pow_le_pow_right (n := 256) (by decide) h2
  have e : (256 : Nat) ^ 7 = 72057594037927936 := by decide
  omega
set_option maxRecDepth 1000000 in
set_option maxHeartbeats 4000000 in
theorem widths_core (x n m : Nat) (hx : x < 18446744073709551616) (hn : n ≤ 20) (hm : m < n) (w : World) :
    Calls Try.prog 7 #[.int .u64 x, .int .i64 n, .int .i64 m] w fun e w' => e = .returned (.bool true) ∧ Below w.heap.size w w' := by
  have cw := new_c w
  have g1 : (n : Int) ≤ 20 := by omega
  have g2 : (m : Int) < n := by omega
  go_enter Try.func7, Try.ntmps7
  go_upto_region 4 with (go_at_call 9; (with_reducible refine cw.mono ?_); rintro e W1 ⟨rfl, hL1, hB1, z1⟩; clear cw)
  have hO1 : Own (fun k => w.heap.size ≤ k) w.heap.size (.slice none 0 0) (.slice none 0 0) (.slice none 0 0) := ⟨Nat.le_refl _, fun k e => by simp [Value.ownBlock] at e, fun k e => by simp [Value.ownBlock] at e, fun k e => by simp [Value.ownBlock] at e⟩
  have hU1 : Upd (fun k => w.heap.size ≤ k) w W1 := Upd.of_below hB1
  have ct : Calls Try.prog 14 #[.pointer (some ⟨w.heap.size, 0, none⟩), .int .i64 (8 * n)] W1 _ := first_take hL1 (8 * n) (8 * n) (by omega) (by omega) (by unfold up8; omega) hO1
  go_upto_region 7 with (go_at_call 14; (with_reducible refine ct.mono ?_); rintro e W2 ⟨rfl, hU2, vr2, vb2, vf2, hL2, hO2⟩; clear ct)
  replace hU2 := hU1.trans' hU2
  have hO2' : Own (fun k => w.heap.size ≤ k) w.heap.size vr2 vb2 vf2 := hO2.mono (fun k g => g.elim id (fun g => by have := hB1.size; omega))
  have e8 : ((8 : Int) * n) = ((8 * n : Nat) : Int) := by omega
  rw [e8] at hL2
  clear e8
  have ct := second_take (8 * n) (by omega) (by omega) (by unfold up8; omega) hL2 hO2'
  clear hL1 hO1 hU1 hO2
  have s2 := hU2.size
  go_upto_region 8 with (go_at_call 14; (with_reducible refine ct.mono ?_); rintro e W3 ⟨rfl, hU3, vr3, vb3, vf3, hL3, hO3⟩; clear ct)
  replace hU3 := hU2.trans' hU3
  have hO3' : Own (fun k => w.heap.size ≤ k) w.heap.size vr3 vb3 vf3 := hO3.mono (fun k g => g.elim id (fun g => by omega))
  have f3 : Fit (twoSto (8 * n)) := fit_two (8 * n) (by omega) (List.replicate (8 * n + 8) 0) (by simp) (fun b hb => by rw [List.eq_of_mem_replicate hb]; decide)
  have cs : Calls Try.prog 16 #[.pointer (some ⟨w.heap.size, 0, none⟩), .int .i64 0, .int .i64 (8 * m), .int .i64 8, .int .u64 x] W3 _ := save_ok hL3 f3 0 8 x hx ⟨true, 0, (8 * n : Nat), 0, 2⟩ rfl (by decide) (8 * m) 0 rfl (by omega) (by show ((8 * m : Nat) : Int) + ((8 : Nat) : Int) ≤ ((8 * n : Nat) : Int); omega) (by show (0 : Int) + ((8 * n : Nat) : Int) ≤ ((List.replicate (8 * n + 8) 0).length : Nat); simp; omega) hO3'
  clear hL2 hU2 hO3 hO2'
  go_upto_region 10 with (go_at_call 16; (with_reducible refine cs.mono ?_); rintro e W4 ⟨rfl, hL4, hU4⟩; clear cs)
  replace hU4 := hU3.trans' hU4
  have hL5 : Lay (W4.alloc (.cells #[.int .i64 1, .int .i64 2, .int .i64 4, .int .i64 8] 3)) w.heap.size vr3 vb3 vf3 { twoSto (8 * n) with row := wideRow (8 * n) m x } := hL4.alloc _
  have hU5 := hU4.alloc (.cells #[.int .i64 1, .int .i64 2, .int .i64 4, .int .i64 8] 3)
  have cw : ∀ i, (W4.alloc (.cells #[.int .i64 1, .int .i64 2, .int .i64 4, .int .i64 8] 3)).cell? ⟨W4.heap.size, i, none⟩ = #[Value.int .i64 1, .int .i64 2, .int .i64 4, .int .i64 8][i]? := fun i => World.cell?_alloc_new W4 _ _ i
  have zw : W4.heap.size < (W4.alloc (.cells #[.int .i64 1, .int .i64 2, .int .i64 4, .int .i64 8] 3)).heap.size := by simp
  have f4 : Fit { twoSto (8 * n) with row := wideRow (8 * n) m x } := fit_two (8 * n) (by omega) _ (wideRow_len _ _ _) (wideRow_byte _ _ _ (by omega))
  have hx0 : ({ twoSto (8 * n) with row := wideRow (8 * n) m x } : Sto).ext 0 = some ⟨true, 0, (8 * n : Nat), 0, 2⟩ := rfl
  have hx1 : ({ twoSto (8 * n) with row := wideRow (8 * n) m x } : Sto).ext 1 = some ⟨true, (8 * n : Nat), 8, 1, 0⟩ := rfl
  clear hL4 hU4 hU3 hL3 hO3' f3
  go_wp2
  generalize World.alloc W4 _ = W5 at *
  generalize W4.heap.size = Bw at *
  have HL := (show Hid _ from hL5)
  have HU := (show Hid _ from hU5)
  have HF := (show Hid _ from f4)
  have hn8 : (n : Int) ≤ 20 := g1
  clear hL5 hU5 f4
  go_loopw [68] (fun i wr => ∃ k : Nat, k ≤ 4 ∧ i = .int .i64 k ∧ Below W5.heap.size W5 wr) (fun i _ => 4 - (intOf i).toNat)
  case atStart => exact ⟨0, by omega, rfl, Below.refl _ _⟩
  case round =>
    obtain ⟨k, hk, rfl, hB⟩ := hrel
    by_cases hk4 : k < 4
    · obtain ⟨wd, hwd, hcw⟩ : ∃ wd : Nat, (wd = 1 ∨ wd = 2 ∨ wd = 4 ∨ wd = 8) ∧ wr.cell? ⟨Bw, k, none⟩ = some (.int .i64 wd) := by
        have e := (hB.cell (p := ⟨Bw, k, none⟩) zw).trans (cw k)
        match k, hk4, e with
        | 0, _, e => exact ⟨1, by omega, e⟩
        | 1, _, e => exact ⟨2, by omega, e⟩
        | 2, _, e => exact ⟨4, by omega, e⟩
        | 3, _, e => exact ⟨8, by omega, e⟩
      have hk0 : (0 : Int) ≤ k := by omega
      have hk4' : (k : Int) < 4 := by omega
      have hwd1 : (1 : Int) ≤ wd := by omega
      have hwd8 : (wd : Int) ≤ 8 := by omega
      go_wp2
      go_loopw [14] (fun kk wr2 => ∃ j : Nat, kk = .int .i64 j ∧ j ≤ 8 * n ∧ j % wd = 0 ∧ Below W5.heap.size W5 wr2) (fun kk _ => 8 * n - (intOf kk).toNat)
      case atStart => exact ⟨0, rfl, Nat.zero_le _, Nat.zero_mod _, hB⟩
      case round =>
        obtain ⟨j, rfl, hj, hjm, hB2⟩ := hrel
        by_cases hj8 : j < 8 * n
        · have hjw : j + wd ≤ 8 * n := by rcases hwd with rfl | rfl | rfl | rfl <;> omega
          have hjm' : (j : Int) % wd = 0 := by rcases hwd with rfl | rfl | rfl | rfl <;> omega
          have cl : Calls Try.prog 15 #[.pointer (some ⟨w.heap.size, 0, none⟩), .int .i64 0, .int .i64 j, .int .i64 wd] wr _ := load_ok (HL.out.below (hB2.mono (Nat.le_refl _))) HF.out 0 wd _ hx0 hwd j 0 rfl hjm' (by show (j : Int) + wd ≤ ((8 * n : Nat) : Int); omega) (by show (0 : Int) + ((8 * n : Nat) : Int) ≤ ((wideRow (8 * n) m x).length : Nat); rw [wideRow_len]; omega)
          have hj8' : (j : Int) < 8 * n := by omega
          obtain ⟨sg, hsg⟩ : ∃ sg, sg = seg (wideRow (8 * n) m x) (0 + j) wd := ⟨_, rfl⟩
          have hsl : sg.length = wd := by rw [hsg]; exact seg_len _ _ _ (by rw [wideRow_len]; omega)
          have hsb : ∀ i (hi : i < sg.length), sg[i] = byteAt x m (j + i) := by
            intro i hi
            have e1 : sg[i]? = some (byteAt x m (j + i)) := by
              rw [hsg, seg_get _ _ _ _ (by omega), show 0 + j + i = j + i by omega]
              exact wideRow_get _ _ _ _ (by omega) (by omega)
            rw [List.getElem?_eq_getElem hi] at e1
            exact Option.some.inj e1
          have cl' : Calls Try.prog 15 #[.pointer (some ⟨w.heap.size, 0, none⟩), .int .i64 0, .int .i64 j, .int .i64 wd] wr fun e w' => e = .returned (.tuple #[.int .u64 (leN sg), .int .i64 0]) ∧ Below wr.heap.size wr w' := by rw [hsg]; exact cl
          have HS := (show Hid _ from hsl)
          have HSB := (show Hid _ from hsb)
          clear cl hsg hsl hsb hjw hjm'
          go_wp2_with (go_at_call 15; (with_reducible refine cl'.mono ?_); rintro e W6 ⟨rfl, hB6⟩; clear cl')
          replace hB6 : Below W5.heap.size W5 W6 := hB2.trans (hB6.mono hB2.size)
          go_loop [17, 18] (fun want i => ∃ c : Nat, c ≤ wd ∧ i = .int .i64 ((c : Int) - 1) ∧ want = .int .u64 (leN (sg.drop c))) (fun _ i => (intOf i + 1).toNat)
          case atStart => exact ⟨wd, Nat.le_refl _, rfl, by rw [List.drop_of_length_le (by rw [HS.out]; exact Nat.le_refl _)]; rfl⟩
          case round =>
            obtain ⟨c, hc, rfl, rfl⟩ := hrel
            cases c with
            | zero =>
              simp only [List.drop_zero]
              have hne : (((leN sg : Nat) : Int) != ((leN sg : Nat) : Int)) = false := by simp
              have HJ : Hid (j + wd ≤ 8 * n ∧ (j + wd) % wd = 0) := by rcases hwd with rfl | rfl | rfl | rfl <;> exact hid (by omega)
              generalize leN sg = lsg at *
              have hjb : (j : Int) ≤ 160 := by omega
              go_wp2
              go_roundw
              case rel => exact ⟨j + wd, by go_num, HJ.out.1, HJ.out.2, hB6⟩
              case measure => have := HJ.out.1; simp [intOf]; omega
            | succ d =>
              have hd0 : (0 : Int) ≤ d := by omega
              have hd1 : (d : Int) ≤ 7 := by omega
              simp only [Int.natCast_add, Int.cast_ofNat_Int, Int.add_sub_cancel]
              have hds : d < sg.length := by rw [HS.out]; omega
              have hnext : Hid (leN (sg.drop d) = byteAt x m (j + d) + 256 * leN (sg.drop (d + 1))) := by
                rw [leN_drop sg d hds, HSB.out d hds]; exact hid rfl
              have hlt0 := drop_lt sg d wd HS.out (by omega) (fun i hi => by rw [HSB.out i hi]; exact byteAt_lt _ _ _)
              generalize hwt : leN (sg.drop (d + 1)) = wt at hlt0 ⊢
              have Hlt := (show Hid _ from hlt0)
              clear hlt0
              have Hwt := (show Hid _ from hwt)
              clear hwt
              by_cases hin : 8 * m ≤ j + d ∧ j + d < 8 * m + 8
              · have i1 : (8 : Int) * m ≤ j + d := by omega
                have i2 : (j : Int) + d < 8 * m + 8 := by omega
                go_wp2
                go_round
                case rel => exact ⟨d, by omega, rfl, by rw [want_in _ _ _ hx Hlt.out, hnext.out, byteAt, if_pos hin, ← Hwt.out]⟩
                case measure => simp [intOf]
              · have i1 : ¬ ((8 : Int) * m ≤ j + d ∧ (j : Int) + d < 8 * m + 8) := by omega
                by_cases hlo : (8 : Int) * m ≤ j + d
                · have i2 : ¬ (j : Int) + d < 8 * m + 8 := by omega
                  go_wp2
                  go_round
                  case rel => exact ⟨d, by omega, rfl, by rw [want_out _ Hlt.out, hnext.out, byteAt, if_neg hin, ← Hwt.out]⟩
                  case measure => simp [intOf]
                · go_wp2
                  go_round
                  case rel => exact ⟨d, by omega, rfl, by rw [want_out _ Hlt.out, hnext.out, byteAt, if_neg hin, ← Hwt.out]⟩
                  case measure => simp [intOf]
        · have hj8' : ¬ (j : Int) < 8 * n := by omega
          go_wp2
          go_roundw
          case rel => exact ⟨k + 1, by omega, by go_num, hB2⟩
          case measure => simp [intOf]; omega
    · have hk4' : ¬ (k : Int) < 4 := by omega
      have hz : leN (seg (wideRow (8 * n) m x) (8 * n + 0) 8) = 0 := by
        have e : seg (wideRow (8 * n) m x) (8 * n + 0) 8 = List.replicate 8 0 := by
          apply List.ext_getElem?
          intro i
          by_cases hi : i < 8
          · rw [seg_get _ _ _ _ hi, wideRow_get _ _ _ _ (by omega) (by omega), byteAt, if_neg (by omega)]
            rw [List.getElem?_replicate, if_pos hi]
          · rw [List.getElem?_eq_none (by rw [seg_len _ _ _ (by rw [wideRow_len]; omega)]; omega), List.getElem?_eq_none (by simp; omega)]
        rw [e]; rfl
      have cl : Calls Try.prog 15 #[.pointer (some ⟨w.heap.size, 0, none⟩), .int .i64 1, .int .i64 0, .int .i64 8] wr _ := load_ok (HL.out.below hB) HF.out 1 8 _ hx1 (by decide) 0 (8 * n) rfl (by decide) (show ((0 : Nat) : Int) + ((8 : Nat) : Int) ≤ 8 by decide) (by show ((8 * n : Nat) : Int) + 8 ≤ ((wideRow (8 * n) m x).length : Nat); rw [wideRow_len]; omega)
      rw [show leN (seg ({ twoSto (8 * n) with row := wideRow (8 * n) m x } : Sto).row (8 * n + 0) 8) = 0 from hz] at cl
      clear hz hx0 hx1 cw zw
      have aw := fun w => awake_c w
      go_wp2_with (first | (go_at_call 15; (with_reducible refine cl.mono ?_); rintro e W6 ⟨rfl, hB6⟩; clear cl) | (go_at_call 13; (with_reducible refine (aw _).mono ?_); rintro e W7 ⟨rfl, hB7⟩; clear aw))
      go_ret
      refine ⟨rfl, ?_⟩
      have b1 := HU.out.below (n := w.heap.size) (Nat.le_refl _) (fun k g => g)
      have s5 := HU.out.size
      exact b1.trans (((hB.trans (hB6.mono hB.size)).trans (hB7.mono (Nat.le_trans hB.size hB6.size))).mono s5)
theorem storeWidths_walk (a0 : Int) (a1 : Int) (a2 : Int) (w0 : (Lit.int .u64 a0).wf = true) (w1 : (Lit.int .i64 a1).wf = true) (w2 : (Lit.int .i64 a2).wf = true) (w : World) :
    Calls Try.prog 7 #[.int .u64 a0, .int .i64 a1, .int .i64 a2] w fun e w' => e = .returned (.bool true) ∧ Below w.heap.size w w' := by
  have b0 := bounds_u64 w0
  by_cases hin : 0 ≤ a1 ∧ a1 ≤ 20 ∧ 0 ≤ a2 ∧ a2 < a1
  · obtain ⟨n, rfl⟩ := Int.eq_ofNat_of_zero_le hin.1
    obtain ⟨m, rfl⟩ := Int.eq_ofNat_of_zero_le hin.2.2.1
    obtain ⟨x, rfl⟩ := Int.eq_ofNat_of_zero_le b0.1
    exact widths_core x n m (by omega) (by omega) (by omega) w
  · rcases (show a1 < 0 ∨ (0 ≤ a1 ∧ 20 < a1) ∨ (0 ≤ a1 ∧ a1 ≤ 20 ∧ a2 < 0) ∨ (0 ≤ a1 ∧ a1 ≤ 20 ∧ 0 ≤ a2 ∧ a1 ≤ a2) by omega) with h | ⟨h1, h2⟩ | ⟨h1, h2, h3⟩ | ⟨h1, h2, h3, h4⟩ <;> (
      go_enter Try.func7, Try.ntmps7
      go_wp2
      go_ret
      exact ⟨rfl, Below.refl _ _⟩)
end Go.Proofs.Ytjnoobdbbpdilaa.W
