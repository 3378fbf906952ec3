import Derived.Test.YtdafcfmbnlgbfaaS7fJ
import Derived.Test.YtdafcfmbnlgbfaaBase4
import Derived.Test.YtdafcfmbnlgbfaaIntsWJ
/- StorePacks: the walk. -/
namespace Go.Proofs.Ytdafcfmbnlgbfaa.W
open Go.ChangeShapes Go.WideShapes Go.RowKit Go.Shelf Go.Maps
set_option linter.unusedVariables false
set_option linter.unusedSimpArgs false
namespace Sq
theorem wf_small (n : Nat) (h : n ≤ 1000) : (Lit.int .i64 (n : Int)).wf = true := by
  have e1 : IntKind.i64.min = -9223372036854775808 := by decide
  have e2 : IntKind.i64.max = 9223372036854775807 := by decide
  simp [Lit.wf]
  omega
set_option maxRecDepth 100000 in
theorem sq_long (o0 o1 : Option Addr) (l0 c0 l1 c1 : Nat) (h : 60 < l0 ∨ 60 < l1) (w : World) : Calls Try.prog 3 #[.slice o0 l0 c0, .slice o1 l1 c1] w fun e w' => e = .returned (.bool true) ∧ Below w.heap.size w w' := by
  refine (callsIn_wide (n := 9)).1 ?_
  refine callsIn_of_wp_marks Try.func3 rfl trivial ?_ rfl
  refine wpIn_wide.2 ?_
  simp only [Try.ntmps3, List.size_toArray, List.length_cons, List.length_nil, Nat.reduceAdd, Nat.reduceSub, Array.replicate_succ, Array.replicate_zero, List.push_toArray, List.append_toArray, List.nil_append, List.cons_append]
  by_cases c : (l0 : Int) > 60
  · clear h
    go_wp2
    exact ⟨_, results_tmp rfl _ _ _, rfl, Below.refl _ _⟩
  · have c2 : (l1 : Int) > 60 := by omega
    clear h
    go_wp2
    exact ⟨_, results_tmp rfl _ _ _, rfl, Below.refl _ _⟩
set_option maxRecDepth 100000 in
set_option maxHeartbeats 4000000 in
theorem sq_main (o0 o1 : Option Addr) (l0 c0 l1 c1 : Nat) (N0 N1 : Nat → Int) (h0 : l0 ≤ 60) (h1 : l1 ≤ 60) (w : World) (R0 : Si.IntsW w o0 l0 c0 N0) (R1 : Si.IntsW w o1 l1 c1 N1) : Calls Try.prog 3 #[.slice o0 l0 c0, .slice o1 l1 c1] w fun e w' => e = .returned (.bool true) ∧ Below w.heap.size w w' := by
  have a0 : ¬ (l0 : Int) > 60 := by omega
  have a1 : ¬ (l1 : Int) > 60 := by omega
  have hmm := @run_makeMap Try.prog
  have cn := pw_new w
  refine (callsIn_wide (n := 9)).1 ?_
  refine callsIn_of_wp_marks Try.func3 rfl trivial ?_ rfl
  refine wpIn_wide.2 ?_
  simp only [Try.ntmps3, List.size_toArray, List.length_cons, List.length_nil, Nat.reduceAdd, Nat.reduceSub, Array.replicate_succ, Array.replicate_zero, List.push_toArray, List.append_toArray, List.nil_append, List.cons_append]
  have HR0 := hid R0
  have HR1 := hid R1
  clear R0 R1
  go_upto_region 6 with (go_at_call 4; (with_reducible refine cn.mono ?_); rintro e w2 ⟨rfl, p2, z2⟩; clear cn)
  have bM : Below w2.heap.size w2 (w2.alloc (.map #[] 0)) := (Below.refl _ _).alloc (Nat.le_refl _) _
  have hM := World.ownsMap_made w2 Try.prog 3 (plainElem (H := Unit) Try.prog 3)
  obtain ⟨K3, p3, k3⟩ : ∃ K3, Pw w (w2.alloc (.map #[] 0)) w.heap.size [] K3 ∧ K3 w2.heap.size := ⟨_, p2.upd (D := fun _ => False) (Upd.of_below bM) (fun k e => e.elim), .inr ⟨Nat.le_refl _, by rw [World.size_alloc]; omega⟩⟩
  have mbge : w.heap.size ≤ w2.heap.size := by omega
  have ST := hid (And.intro p3 (And.intro k3 (And.intro hM mbge)))
  clear bM hM p2 p3 k3 mbge z2
  go_upto_region 7 with fail
  generalize w2.alloc (.map #[] 0) = W3 at *
  generalize w2.heap.size = mb at *
  clear hmm
  go_wp2
  go_loopw [7, 8, 9, 10, 11] (fun ii _ _ _ _ wr => ∃ (j : Nat) (A : List (Option (List Nat))) (D : Dm) (K : Nat → Prop), j ≤ l0 ∧ ii = .int .i64 j ∧ Pw w wr w.heap.size A K ∧ K mb ∧ wr.ownsMap Try.prog 3 (plainElem (H := Unit) Try.prog 3) mb j D ∧ Mp A D ∧ A.length ≤ j ∧ sumA A ≤ 200 * j) (fun ii _ _ _ _ _ => l0 - (intOf ii).toNat)
  case atStart =>
    obtain ⟨y1, y2, y3, y4⟩ := ST.out
    exact ⟨0, [], .map [], K3, Nat.zero_le _, rfl, y1, y2, y3, mp_nil, Nat.le_refl _, Nat.le_refl _⟩
  case round =>
    obtain ⟨j, A, D, K, hj, rfl, pw, kmb, hown, mp, hAl, hAs⟩ := hrel
    have mbge := ST.out.2.2.2
    have HMB := hid mbge
    clear ST mbge
    by_cases hlt : j < l0
    · obtain ⟨a, rfl, hc0, hw0⟩ : ∃ a, o0 = some a ∧ w.cell? (a.add j) = some (.int .i64 (N0 j)) ∧ (Lit.int .i64 (N0 j)).wf = true := by
        rcases HR0.out with ⟨_, h⟩ | ⟨a, e, h⟩
        · omega
        · exact ⟨a, e, (h j hlt).1, (h j hlt).2⟩
      have hlA := World.block_lt_of_cell? w _ hc0
      have hmeas : l0 - ((j : Int) + 1).toNat < l0 - ((j : Int)).toNat := by omega
      have HM := hid hmeas
      have j0 : (0 : Int) ≤ j := Int.natCast_nonneg _
      have j1 : (j : Int) < l0 := by omega
      have hcA := (pw.bel.cell hlA).trans hc0
      clear hmeas
      by_cases b1 : N0 j < 0
      · have PW := hid pw
        clear pw hown mp
        go_wp2
        exact ⟨_, results_tmp rfl _ _ _, rfl, PW.out.bel⟩
      · by_cases b2 : N0 j > 200
        · have PW := hid pw
          clear pw hown mp
          go_wp2
          exact ⟨_, results_tmp rfl _ _ _, rfl, PW.out.bel⟩
        · obtain ⟨m, hm⟩ : ∃ m : Nat, N0 j = m := ⟨(N0 j).toNat, by omega⟩
          rw [hm] at hc0 hcA b1 b2
          have hm2 : m ≤ 200 := by omega
          have hup := up8N_200 m hm2
          have ct := pw.take m hm2 (by omega) (by omega)
          have HX := hid (And.intro hc0 (And.intro hlA (And.intro hown (And.intro mp (And.intro hAl hAs)))))
          clear hm hw0 pw hown mp hAl hAs hc0 hlA
          go_upto_if 60 with (go_at_call 5; (with_reducible refine ct.mono ?_); rintro e w4 ⟨rfl, p4, hk4⟩; clear ct)
          obtain ⟨hc0, hlA, hown, mp, hAl, hAs⟩ := HX.out
          have own4 := map_on hown (hk4 mb kmb)
          have hc4 := (p4.bel.cell hlA).trans hc0
          have hlst := least_le A
          have wid := wf_small (leastA A) (by omega)
          have wm := wf_small m (by omega)
          have hmx : j < maxLen := by unfold maxLen; omega
          clear HX hcA
          go_upto_region 16 with (at_mapUpdate; refine wpList_mapUpdate_own _ rfl _ _ _ 25 rfl 3 3 lawI underM _ mb _ _ rfl own4 hmx _ _ _ rfl rfl (keyOf_int_mk underI wid) _ [] (plainElem_int underI wm) ?_; intro w5 own5 hg5; go_frame)
          have p5 : Pw w w5 w.heap.size (putA A (leastA A) (some (List.replicate m 0))) K := (p4.upd (upd_grown hg5) (fun k e => by subst e; exact ⟨kmb, HMB.out⟩)).sub (fun k e => .inl e)
          have hc5 := (p5.bel.cell hlA).trans hc0
          clear p4 own4 hown hg5 hk4 hc4
          have P5 := hid (show Pw w w5 w.heap.size (putA A (leastA A) (some (List.replicate m 0))) K ∧ Mp A D ∧ A.length ≤ j ∧ sumA A ≤ 200 * j ∧ up8N m ≤ 200 ∧ leastA A ≤ A.length from ⟨p5, mp, hAl, hAs, hup, hlst⟩)
          have O5 := hid own5
          have HC := hid (And.intro hc0 hlA)
          clear p5 mp hAl hAs hup own5 hc0 hlA hlst
          go_cut [85] from 67 to 84 (fun c wc => c = .bool false ∧ ∃ y : List Nat, Pw w wc w.heap.size (putA A (leastA A) (some y)) K ∧ wc.heap[mb]? = w5.heap[mb]? ∧ y.length = m ∧ (0 < y.length → y[y.length - 1]? = some ((leastA A + 7) % 256)))
          case first =>
            by_cases hm0 : m = 0
            · subst hm0
              go_wp2
              go_meet
              exact ⟨rfl, [], P5.out.1, rfl, rfl, fun h => by cases h⟩
            · have hm1 : (m : Int) > 0 := by omega
              have cs := P5.out.1.save (leastA A) (List.replicate m 0) (putA_self A _) (m - 1) (leastA A + 7) (by have := P5.out.2.2.2.2.2; have := P5.out.2.2.1; omega) (by rw [List.length_replicate]; omega)
              rw [show ((m - 1 : Nat) : Int) = (m : Int) - 1 from by omega, show ((leastA A + 7 : Nat) : Int) = (leastA A : Int) + 7 from by omega] at cs
              have f1 : IntKind.i64.wrap ((m : Int) - 1) = (m : Int) - 1 := by rw [IntKind.wrap_i64]; omega
              have f2 : IntKind.i64.wrap ((leastA A : Int) + 7) = (leastA A : Int) + 7 := by have := P5.out.2.2.2.2.2; have := P5.out.2.2.1; rw [IntKind.wrap_i64]; omega
              have f3 : IntKind.u64.wrap ((leastA A : Int) + 7) = (leastA A : Int) + 7 := by have := P5.out.2.2.2.2.2; have := P5.out.2.2.1; rw [IntKind.wrap_u64]; omega
              go_wp2_with (go_at_call 6; (with_reducible refine cs.mono ?_); rintro e w6 ⟨rfl, p6, hk6⟩; clear cs)
              go_meet
              obtain ⟨q1, q2⟩ := last_saved m (leastA A + 7) (by omega)
              refine ⟨rfl, saved (List.replicate m 0) (m - 1) (leastA A + 7) 1, ?_, hk6 mb kmb, q1, fun _ => by rw [q1]; exact q2⟩
              rw [← putA_set A (some (List.replicate m 0)) (some (saved (List.replicate m 0) (m - 1) (leastA A + 7) 1))]
              exact p6
          case rest =>
            obtain ⟨rfl, y, p6, hb6, hy1, hy2⟩ := hcut
            have own6 := map_on O5.out hb6
            have mp6 := P5.out.2.1.put y (by omega) hy2
            rw [hy1] at mp6
            have hs6 : sumA (putA A (leastA A) (some y)) ≤ 200 * (j + 1) := by rw [sumA_put, hy1]; have := P5.out.2.2.2.2.1; have := P5.out.2.2.2.1; omega
            have hl6 : (putA A (leastA A) (some y)).length ≤ j + 1 := by rw [putA_len]; have := P5.out.2.2.1; split <;> omega
            generalize putA A (leastA A) (some y) = A2 at *
            have own6' : wc.ownsMap Try.prog 3 (plainElem (H := Unit) Try.prog 3) mb (j + 1) (D.put (kI (leastA A : Int)) (.lit (.int .i64 (m : Int)))) := own6
            generalize D.put (kI (leastA A : Int)) (.lit (.int .i64 (m : Int))) = D2 at *
            have P6 := hid (show Pw w wc w.heap.size A2 K ∧ Mp A2 D2 ∧ A2.length ≤ j + 1 ∧ sumA A2 ≤ 200 * (j + 1) from ⟨p6, mp6, hl6, hs6⟩)
            clear P5 O5 p6 mp6 hl6 hs6 own6 hb6 hy1 hy2 hc5
            have wj : IntKind.i64.wrap ((j : Int) + 1) = (j : Int) + 1 := by rw [IntKind.wrap_i64]; omega
            by_cases hj1 : j < l1
            · have k1 : (j : Int) < l1 := by omega
              obtain ⟨b, rfl, hcG, hwG⟩ : ∃ b, o1 = some b ∧ w.cell? (b.add j) = some (.int .i64 (N1 j)) ∧ (Lit.int .i64 (N1 j)).wf = true := by
                rcases HR1.out with ⟨_, h⟩ | ⟨a, e, h⟩
                · omega
                · exact ⟨a, e, (h j hj1).1, (h j hj1).2⟩
              have hlG := World.block_lt_of_cell? w _ hcG
              have hcG6 := (P6.out.1.bel.cell hlG).trans hcG
              generalize N1 j = z at *
              go_upto_if 99 with (at_lookup; refine wpList_lookup_own_ok_int _ rfl _ _ 25 rfl 3 3 .i64 lawI underM underI (zeroI _) mb _ _ rfl own6' _ _ rfl (keyOf_int_mk underI hwG) ?_; intro c hat hwc; go_frame)
              clear hat hwc
              cases hh : Maps.has D2 (.int .i64 z) with
              | false =>
                clear hcG6
                go_wp2
                go_roundw
                case rel => exact ⟨j + 1, A2, D2, K, hlt, rfl, P6.out.1, kmb, own6', P6.out.2.1, P6.out.2.2.1, P6.out.2.2.2⟩
                case measure => exact HM.out
              | true =>
                obtain ⟨id', x', rfl, hx'⟩ := (P6.out.2.1.has z).1 hh
                have cg := P6.out.1.give id' x' hx'
                have hid9 : id' < 100 := by have := (List.getElem?_eq_some_iff.1 hx').1; have := P6.out.2.2.1; omega
                have HW := hid (And.intro hcG hlG)
                clear hcG hlG hh
                go_upto_if 106 with (go_at_call 7; (with_reducible refine cg.mono ?_); rintro e w7 ⟨rfl, p7, hk7⟩; clear cg)
                have own7 := map_on own6' (hk7 mb kmb)
                have hcG7 := (p7.bel.cell HW.out.2).trans HW.out.1
                clear hcG6
                go_upto_region 9 with (at_delete; refine wpList_delete_own _ rfl _ _ 25 3 rfl 3 lawI underM _ mb _ _ rfl own7 _ _ rfl (keyOf_int_mk underI hwG) ?_; intro w8 own8 hturn8; go_frame)
                have p8 : Pw w w8 w.heap.size (A2.set id' none) K := (p7.upd (upd_grown hturn8.grown) (fun k e => by subst e; exact ⟨kmb, HMB.out⟩)).sub (fun k e => .inl e)
                have mp8 := P6.out.2.1.del id' x' hx'
                have hs8 : sumA (A2.set id' none) ≤ 200 * (j + 1) := by
                  have hl := (List.getElem?_eq_some_iff.1 hx').1
                  have h1 := sumA_set A2 id' none hl
                  have h2 := P6.out.2.2.2
                  simp only [lenA] at h1
                  omega
                have hl8 : (A2.set id' none).length ≤ j + 1 := by rw [List.length_set]; exact P6.out.2.2.1
                have own8' : w8.ownsMap Try.prog 3 (plainElem (H := Unit) Try.prog 3) mb (j + 1) (D2.del (kI (id' : Int))) := own8
                have F8 := hid (And.intro p8 (And.intro own8' (And.intro mp8 (And.intro hl8 hs8))))
                clear p8 own8' own8 mp8 hl8 hs8 hturn8 own7 p7 hk7 hcG7 own6' P6
                go_wp2
                go_roundw
                case rel => exact ⟨j + 1, _, _, K, hlt, rfl, F8.out.1, kmb, F8.out.2.1, F8.out.2.2.1, F8.out.2.2.2.1, F8.out.2.2.2.2⟩
                case measure => exact HM.out
            · have k1 : ¬ (j : Int) < l1 := by omega
              go_wp2
              go_roundw
              case rel => exact ⟨j + 1, A2, D2, K, hlt, rfl, P6.out.1, kmb, own6', P6.out.2.1, P6.out.2.2.1, P6.out.2.2.2⟩
              case measure => exact HM.out
    · have e : j = l0 := by omega
      subst e
      have cp := pw.pack
      have HX := hid (And.intro hown (And.intro mp (And.intro hAl hAs)))
      clear pw hown mp hAl hAs hlt hj
      go_upto_region 26 with (go_at_call 8; (with_reducible refine cp.mono ?_); rintro e w4 ⟨rfl, p4, hk4⟩; clear cp)
      obtain ⟨hown, mp, hAl, hAs⟩ := HX.out
      have own4 := map_on hown (hk4 mb kmb)
      have P4 := hid (And.intro p4 (And.intro mp (And.intro hAl hAs)))
      clear p4 hown mp hAl hAs HX hk4
      go_wp2_with (first | (at_range; refine wpList_range_own _ rfl _ 25 rfl 3 3 lawI underM _ mb _ _ rfl own4 ?_; intro w5 hrg5 hg5 hs5) | go_in)
      go_frame
      have st5 : ∃ (left : Lit → Bool) (cnt : Nat) (K : Nat → Prop), (Value.int .i64 0) = .int .i64 (visF (fun i => !left (kI (i : Int))) A 0 : Nat) ∧ Pt2 w w5 w.heap.size A K ∧ K mb ∧ K w4.heap.size ∧ w5.ranges Try.prog 3 (plainElem (H := Unit) Try.prog 3) mb w4.heap.size j D left cnt ∧ w.heap.size ≤ w4.heap.size := by
        have u5 : Upd (fun _ => False) w4 w5 := (Upd.refl _ w4).grown hg5 (fun k e => by cases e)
        refine ⟨_, _, _, ?_, P4.out.1.upd u5 (fun k e => e.elim), .inl kmb, .inr ⟨Nat.le_refl _, by omega⟩, hrg5, P4.out.1.bel.size⟩
        show _ = Value.int .i64 ((visF (fun i => !Maps.has D (kI (i : Int))) A 0 : Nat) : Int)
        rw [vis_start P4.out.2.1]
        rfl
      have ST5 := hid st5
      have MP := hid (show Mp A D ∧ sumA A ≤ 12000 from ⟨P4.out.2.1, by have := P4.out.2.2.2; omega⟩)
      clear st5 hrg5 hg5 hs5 own4 P4
      generalize w4.heap.size = rb at *
      go_loopw [12, 13, 14, 15, 16, 17, 18] (fun uu _ _ _ _ _ _ wr => ∃ (left : Lit → Bool) (cnt : Nat) (K : Nat → Prop), uu = .int .i64 (visF (fun i => !left (kI (i : Int))) A 0 : Nat) ∧ Pt2 w wr w.heap.size A K ∧ K mb ∧ K rb ∧ wr.ranges Try.prog 3 (plainElem (H := Unit) Try.prog 3) mb rb j D left cnt ∧ w.heap.size ≤ rb) (fun _ _ _ _ _ _ _ wr => wr.rangeLeft mb rb)
      case atStart => exact ST5.out
      case round =>
        obtain ⟨left, cnt, K, rfl, pt, kmb, krb, hrg, hrbw⟩ := hrel
        clear ST5
        have PT := hid pt
        clear pt
        have VL := hid (vis_le (fun i => !left (kI (i : Int))) A 0)
        go_upto_if 117 with (at_next; refine wpList_next_ranges_ii _ rfl _ rfl 3 3 .i64 .i64 lawI underI underI mb rb j _ _ _ rfl hrg ?_ ?_)
        · intro hc0 hl0
          have hve := vis_end (A := A) hl0
          rw [hve]
          have ownR := hrg.owns
          have hsA := MP.out.2
          have fB := World.alloc_heap_new wr (.cells #[.int .i64 0] 3)
          have bB : Below wr.heap.size wr (wr.alloc (.cells #[.int .i64 0] 3)) := (Below.refl _ _).alloc (Nat.le_refl _) _
          obtain ⟨K6, p6, k6, k6m⟩ : ∃ K6, Pt2 w (wr.alloc (.cells #[.int .i64 0] 3)) w.heap.size A K6 ∧ K6 wr.heap.size ∧ K6 mb := ⟨_, PT.out.upd (D := fun _ => False) (Upd.of_below bB) (fun k e => e.elim), .inr ⟨Nat.le_refl _, by rw [World.size_alloc]; omega⟩, .inl kmb⟩
          have own6 := map_on ownR (bB.block mb ownR.lt)
          have hcbm : mb < wr.heap.size := ownR.lt
          have P6 := hid (And.intro p6 (And.intro own6 (And.intro fB (And.intro hcbm (And.intro PT.out.bel.size (And.intro k6 k6m))))))
          clear hrg ownR hve hc0 hl0 fB bB p6 own6 hcbm k6 k6m PT VL
          go_upto_region 38 with fail
          generalize wr.alloc (.cells #[.int .i64 0] 3) = W6 at *
          generalize wr.heap.size = cb at *
          have cv := extents_c
          go_wp2_with (go_at_call 11; (with_reducible refine (cv _ _).mono ?_); rintro e w8 ⟨rfl, hw8⟩; (have hw' := hw8.symm); subst hw'; clear hw8)
          clear cv
          obtain ⟨p6, own6, fB, hcbm, hwcb, k6, k6m⟩ := P6.out
          have bC : Below W6.heap.size W6 (W6.alloc (.cells #[.pointer (some ⟨w.heap.size, 0, none⟩)] 23)) := (Below.refl _ _).alloc (Nat.le_refl _) _
          have fC := cell_of_row _ _ 0 _ _ _ (World.alloc_heap_new W6 (.cells #[.pointer (some ⟨w.heap.size, 0, none⟩)] 23))
          have p7 := p6.below bC
          have hcl := (Array.getElem?_eq_some_iff.1 fB).1
          have f7 := (bC.block cb hcl).trans fB
          have own7 := map_on own6 (bC.block mb own6.lt)
          obtain ⟨l, hll, hG⟩ := p7.pw.tells (Bc := W6.heap.size) k6 fC (by omega)
          have P7 := hid (And.intro p7 (And.intro own7 (And.intro f7 (And.intro hcbm (And.intro hwcb (And.intro k6 k6m))))))
          have HG := hid hG
          have HLL := hid hll
          clear bC fC p7 hcl f7 own7 hll hG p6 own6 fB hcbm hwcb k6 k6m P6
          generalize W6.alloc (.cells #[.pointer (some ⟨w.heap.size, 0, none⟩)] 23) = W7 at *
          generalize W6.heap.size = Bc at *
          have hcnt : cntA A ≤ 100 := by
            obtain ⟨⟨S, ⟨s, E, vr, vb, vf, _, _, f⟩, _⟩, _⟩ := P7.out.1.pw
            have h1 := f.num
            have h2 : cntA A ≤ A.length := List.length_filter_le _ _
            omega
          refine ext_law (sb := w.heap.size) l rfl (fun i D W' => (∀ k, ¬ D k) ∧ Upd (fun k => k = cb) W7 W' ∧ W'.heap[cb]? = some (.cells #[.int .i64 (i : Int)] 3 (0, 0))) (fun _ _ => False) ?hL ?hI ?hIx ?hLx (fun _ => False) ⟨fun k e => e, Upd.refl _ _, P7.out.2.2.1⟩ ?body ?done ?stop
          case hL =>
            rintro i D W' ⟨d1, d2, d3⟩
            exact ⟨HG.out W' d2, fun k e => absurd e (d1 k)⟩
          case hI =>
            rintro i D Wa Wb ⟨d1, d2, d3⟩ hu
            have h1 := (Array.getElem?_eq_some_iff.1 P7.out.2.2.1).1
            have := d2.size
            exact ⟨d1, upd_more' d2 hu (fun k e => by omega), (hu.block cb (by omega) (fun e => by omega)).trans d3⟩
          case hIx => intro c Wa Wb hF; exact hF.elim
          case hLx => intro c Wa hF; exact hF.elim
          case body =>
            rintro L i hi D W' hLe ⟨d1, d2, d3⟩ hs hr
            have h1 := (Array.getElem?_eq_some_iff.1 P7.out.2.2.1).1
            have hil : i < 100 := by have := HLL.out; omega
            have q0 : W'.cell? ⟨cb, 0, none⟩ = some (.int .i64 (i : Int)) := cell_of_row _ _ 0 _ _ _ d3
            have z0 : W'.frozen? ⟨cb, 0, none⟩ = false := by simp [World.frozen?, d3]
            have wi : IntKind.i64.wrap ((i : Int) + 1) = (i : Int) + 1 := by rw [IntKind.wrap_i64]; omega
            have D2 := hid d2
            have D3 := hid d3
            simp only [oneAct, List.setIfInBounds_toArray, List.set_cons_succ, List.set_cons_zero]
            clear d2 d3 hr HG P7
            gi_wp2_with (simp only [Oper.semAt]; go_simp)
            have u1 : Upd (fun k => k = cb) W' (W'.setCell ⟨cb, 0, none⟩ (.int .i64 ((i : Int) + 1))) := (Upd.refl (fun k => k = cb) W').setCell (p := ⟨cb, 0, none⟩) (.inl rfl) _
            have f1 : (W'.setCell ⟨cb, 0, none⟩ (.int .i64 ((i : Int) + 1))).heap[cb]? = some (.cells #[.int .i64 ((i : Int) + 1)] 3 (0, 0)) := heap_set (b := cb) (c := [.int .i64 (i : Int)]) D3.out 0 (.int .i64 ((i : Int) + 1))
            exact ⟨⟨u1.block L (by omega) (by omega), u1.block _ (by omega) (by omega)⟩, fun k h1 h2 h3 => u1.block k h2 (by omega), D, ⟨d1, D2.out.trans' u1, f1⟩, fun k e => .inl e⟩
          case done =>
            rintro D W8 ⟨d1, d2, d3⟩ hD
            rw [HLL.out] at d3
            have h1 := (Array.getElem?_eq_some_iff.1 P7.out.2.2.1).1
            have p8 := P7.out.1.upd d2 (fun k e => by subst e; exact ⟨P7.out.2.2.2.2.2.1, P7.out.2.2.2.2.1⟩)
            have own8 := map_on P7.out.2.1 (d2.block mb P7.out.2.1.lt (fun e => by have := P7.out.2.2.2.1; omega))
            have hlen : ∀ ty, (Builtin.len_ #[25] ty #[.map (some mb)]).run Try.prog W8 = .ok (.int .i64 (cntA A : Nat)) W8 := fun ty => by
              have := own8.len underM ty
              rwa [MP.out.1.size] at this
            have cU := p8.pw.used
            have cS := p8.span
            have q0 : W8.cell? ⟨cb, 0, none⟩ = some (.int .i64 (cntA A : Nat)) := cell_of_row _ _ 0 _ _ _ d3
            have P8 := hid p8
            have HD := hid hD
            have HGE : w.heap.size ≤ W7.heap.size := P7.out.1.bel.size
            clear d2 d3 hD P7 HG own8 p8
            generalize W7.heap.size = e1 at *
            go_wp2_with (first | (go_at_call 12; (with_reducible refine cU.mono ?_); rintro e w9 ⟨rfl, hw9⟩; (have hw' := hw9.symm); subst hw'; clear hw9) | (go_at_call 13; (with_reducible refine cS.mono ?_); rintro e w9 ⟨rfl, hw9⟩; (have hw' := hw9.symm); subst hw'; clear hw9) | (go_at_call 14; (with_reducible refine (awake_c _).mono ?_); rintro e w9 ⟨rfl, b9⟩))
            have hD9 := (b9.block e1 (Array.getElem?_eq_some_iff.1 HD.out).1).trans HD.out
            refine ⟨by simp, .inl ⟨_, _, rfl, run_takeDeferred hD9, ?_⟩⟩
            have hu : Upd (fun k => k = e1) w9 (w9.putObj e1 (.deferred none)) := upd_put (S := fun k => k = e1) rfl _
            have bb : Below w.heap.size w w9 := P8.out.bel.trans (b9.mono P8.out.bel.size)
            refine ⟨_, results_tmp rfl _ _ _, rfl, ?_⟩
            exact bb.trans (hu.below bb.size (fun k e => by subst e; exact HGE))
          case stop => intro c W' hF; exact hF.elim
        · intro x c w1 cnt1 hwx hwc hlx hat hrg1 hlt hg1 hs1 hen
          obtain ⟨id, xs, rfl, hx⟩ := (MP.out.1.has x).1 (Maps.has_true_of_atKey hat)
          have hval := MP.out.1.val id xs hx (.lit (.int .i64 0))
          have hcx : c = (xs.length : Int) := by
            have h1 := (hat (.lit (.int .i64 0))).symm.trans hval
            injection h1 with h1
            injection h1
          subst hcx
          obtain ⟨hx200, hxb⟩ := MP.out.1.byte id xs hx
          have p1 : Pt2 w w1 w.heap.size A K := (PT.out.upd (upd_grown hg1) (fun k e => by subst e; exact ⟨krb, hrbw⟩)).sub (fun k e => .inl e)
          have hvs := vis_step (left := left) hx hlx
          have hid60 : id < 100 := by
            have h1 := (List.getElem?_eq_some_iff.1 hx).1
            obtain ⟨⟨S, ⟨s, E, vr, vb, vf, _, _, f⟩, _⟩, _⟩ := PT.out.pw
            have := f.num
            omega
          obtain ⟨v0, hv0⟩ : ∃ v0, visF (fun i => !left (kI (i : Int))) A 0 = v0 := ⟨_, rfl⟩
          have hv1 : v0 ≤ 12000 := by have := VL.out; have := MP.out.2; omega
          rw [hv0] at hvs ⊢
          have cl := p1.pw.len id xs hx
          have LNc := hid (fun (w' : World) (hB : Below w1.heap.size w1 w') => (p1.below hB).pw.len id xs hx)
          generalize hL : xs.length = L at *
          have MEAS := hid (show cnt1 < cnt from hlt)
          have HRG := hid (And.intro hrg hrg1)
          have LDc : Hid (0 < L → Calls Try.prog 9 #[.pointer (some ⟨w.heap.size, 0, none⟩), .int .i64 (id : Int), .int .i64 ((L : Int) - 1), .int .i64 1] w1 fun e w' => e = .returned (.tuple #[.int .u64 (((id + 7) % 256 : Nat) : Int), .int .i64 0]) ∧ Below w1.heap.size w1 w') := by
            show 0 < L → _
            intro hpos
            have h1 := p1.pw.load id xs hx (L - 1) (by omega)
            rw [seg_one xs (L - 1) ((id + 7) % 256) (hxb (by omega)), show ((L - 1 : Nat) : Int) = (L : Int) - 1 from by omega] at h1
            exact h1
          have a1 : IntKind.i64.wrap ((L : Int) + 7) = (L : Int) + 7 := by rw [IntKind.wrap_i64]; omega
          have a2 : Int.tdiv ((L : Int) + 7) 8 = ((L + 7) / 8 : Nat) := by rw [Int.tdiv_eq_ediv_of_nonneg (by omega)]; omega
          have a3 : IntKind.i64.wrap (((L + 7) / 8 : Nat) : Int) = ((L + 7) / 8 : Nat) := by rw [IntKind.wrap_i64]; omega
          have a4 : IntKind.i64.wrap ((((L + 7) / 8 : Nat) : Int) * 8) = (up8N L : Nat) := by rw [IntKind.wrap_i64]; unfold up8N; omega
          have hup : up8N L ≤ 200 := up8N_200 L hx200
          have a5 : IntKind.i64.wrap ((v0 : Int) + (up8N L : Nat)) = (v0 + up8N L : Nat) := by rw [IntKind.wrap_i64]; omega
          have b1 : IntKind.i64.wrap ((L : Int) - 1) = (L : Int) - 1 := by rw [IntKind.wrap_i64]; omega
          have b2 : IntKind.i64.wrap ((id : Int) + 7) = (id : Int) + 7 := by rw [IntKind.wrap_i64]; omega
          have b3 : IntKind.u64.wrap ((id : Int) + 7) = (id : Int) + 7 := by rw [IntKind.wrap_u64]; omega
          have b4 : Int.tmod ((id : Int) + 7) 256 = (((id + 7) % 256 : Nat) : Int) := by rw [Int.tmod_eq_emod_of_nonneg (by omega)]; omega
          have b5 : IntKind.u64.wrap (((id + 7) % 256 : Nat) : Int) = (((id + 7) % 256 : Nat) : Int) := by rw [IntKind.wrap_u64]; omega
          have FIN : Hid (∀ w', Below w1.heap.size w1 w' → (∃ (left : Lit → Bool) (cnt : Nat) (K : Nat → Prop), (Value.int .i64 ((v0 + up8N L : Nat) : Int)) = .int .i64 (visF (fun i => !left (kI (i : Int))) A 0 : Nat) ∧ Pt2 w w' w.heap.size A K ∧ K mb ∧ K rb ∧ w'.ranges Try.prog 3 (plainElem (H := Unit) Try.prog 3) mb rb j D left cnt ∧ w.heap.size ≤ rb) ∧ w'.rangeLeft mb rb < wr.rangeLeft mb rb) := by
            show ∀ w', _
            intro w' hB
            have r1 := ranges_on HRG.out.2 (hB.block _ HRG.out.2.owns.lt) (hB.block _ HRG.out.2.lt)
            refine ⟨⟨_, cnt1, K, ?_, p1.below hB, kmb, krb, r1, hrbw⟩, by rw [r1.left_eq, HRG.out.1.left_eq]; exact MEAS.out⟩
            exact congrArg (fun z : Nat => Value.int .i64 (z : Int)) hvs.symm
          clear hat hwx hwc hlx hrg1 hrg hlt hg1 hs1 hval hx hxb hvs hv0 p1 HRG hL
          generalize ((((L + 7) / 8 : Nat)) : Int) = q8 at *
          generalize (id + 7) % 256 = m7 at *
          by_cases hL0 : L = 0
          · subst hL0
            go_wp2_with (go_at_call 10; (with_reducible refine cl.mono ?_); rintro e w' ⟨rfl, hw'⟩; (have hw2 := hw'.symm); subst hw2; clear hw')
            go_roundw
            case rel => exact (FIN.out _ (Below.refl _ _)).1
            case measure => exact (FIN.out _ (Below.refl _ _)).2
          · have hL1 : (L : Int) > 0 := by omega
            have ld := LDc.out (by omega)
            have LNc2 := LNc
            clear cl
            go_upto_region 32 with (go_at_call 9; (with_reducible refine ld.mono ?_); rintro e w6 ⟨rfl, b6⟩; clear ld)
            have cl := LNc.out w6 b6
            have FIN6 := hid (FIN.out w6 b6)
            clear b6 FIN
            go_wp2_with (go_at_call 10; (with_reducible refine cl.mono ?_); rintro e w' ⟨rfl, hw'⟩; (have hw2 := hw'.symm); subst hw2; clear hw')
            go_roundw
            case rel => exact FIN6.out.1
            case measure => exact FIN6.out.2
end Sq
theorem storePacks_walk (o0 : Option Addr) (l0 c0 : Nat) (N0 : Nat → Int) (o1 : Option Addr) (l1 c1 : Nat) (N1 : Nat → Int) (w : World) (R0 : Si.IntsW w o0 l0 c0 N0) (R1 : Si.IntsW w o1 l1 c1 N1) : Calls Try.prog 3 #[.slice o0 l0 c0, .slice o1 l1 c1] w fun e w' => e = .returned (.bool true) ∧ Below w.heap.size w w' := by
  by_cases h : 60 < l0 ∨ 60 < l1
  · exact Sq.sq_long o0 o1 l0 c0 l1 c1 h w
  · exact Sq.sq_main o0 o1 l0 c0 l1 c1 N0 N1 (by omega) (by omega) w R0 R1
end Go.Proofs.Ytdafcfmbnlgbfaa.W
