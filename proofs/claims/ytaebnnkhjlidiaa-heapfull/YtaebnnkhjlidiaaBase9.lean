import Derived.Test.YtaebnnkhjlidiaaBase8
import Derived.BigQuiet
import Derived.Test.YtaebnnkhjlidiaaBase6
import Derived.Test.YtaebnnkhjlidiaaBase5
import Derived.OwnWalk
import Derived.Test.YtaebnnkhjlidiaaBase4
import Derived.Laws.MakeOwn
import Derived.Test.YtaebnnkhjlidiaaBase7
/- Package heap: right and Put, of a view. -/
namespace Go.Proofs.Ytaebnnkhjlidiaa.W
open Go.ChangeShapes Go.WideShapes Go.RowKit Go.Shelf
set_option linter.unusedVariables false
section
variable {W W' : World} {hb sb : Nat} {vc : Value} {T : Nat → Prop} {H : List (Option Hc)} {u h : Nat}
set_option maxRecDepth 100000 in
set_option maxHeartbeats 1000000 in
theorem rightView_c (g : HLay W hb sb vc T H u h) (k : Int) (hk : elB k > 0) (ob ow : Option Addr) (bc wc ba p n : Nat) (hba : ba < 18446744073709551616) (id : Nat) (hi : hit H ba = some id) (k2 : Int) (bs : List Nat) (hc : H[id]? = some (some (.buf k2 bs))) (hp : p ≤ bs.length) (hpm : p % elB k = 0) (hn : n ≤ (bs.length - p) / elB k) : Calls Try.prog 39 #[.agg #[.int .i64 k, .bool true, .int .i64 0, .string ⟨#[]⟩, .slice ob 0 bc, .slice ow 0 wc, .int .u64 ba, .int .i64 p, .int .i64 n], (.func (.func 23) #[.pointer (some ⟨hb, 0, none⟩)] #[])] W fun e w' => e = .returned (.bool true) ∧ Below W.heap.size W w' := by
  have hB1 : Below W.heap.size W (W.alloc (.cells #[.int .i64 k, .bool true, .int .i64 0, .string ⟨#[]⟩, .slice ob 0 bc, .slice ow 0 wc, .int .u64 ba, .int .i64 p, .int .i64 n] 26)) := (Below.refl _ W).alloc (Nat.le_refl _) _
  have e1 := World.cell?_alloc_new W #[.int .i64 k, .bool true, .int .i64 0, .string ⟨#[]⟩, .slice ob 0 bc, .slice ow 0 wc, .int .u64 ba, .int .i64 p, .int .i64 n] 26
  have hs1 : ((W.alloc (.cells #[.int .i64 k, .bool true, .int .i64 0, .string ⟨#[]⟩, .slice ob 0 bc, .slice ow 0 wc, .int .u64 ba, .int .i64 p, .int .i64 n] 26))).heap.size = W.heap.size + 1 := World.size_alloc ..
  have ga := g.below hB1
  have ok := g.ok id _ hc
  have hk2 : elB k2 > 0 := ok.1
  have hl8 : bs.length ≤ 8388608 := ok.2.2
  have e3 : shp k2 false = 3 := by
    unfold shp
    simp [hk2]
  have cf : Calls Try.prog 23 #[.pointer (some ⟨hb, 0, none⟩), .int .u64 ba] (W.alloc (.cells #[.int .i64 k, .bool true, .int .i64 0, .string ⟨#[]⟩, .slice ob 0 bc, .slice ow 0 wc, .int .u64 ba, .int .i64 p, .int .i64 n] 26)) fun e w' => e = .returned (.tuple #[.int .i64 3, .int .i64 bs.length, .bool true]) ∧ Below ((W.alloc (.cells #[.int .i64 k, .bool true, .int .i64 0, .string ⟨#[]⟩, .slice ob 0 bc, .slice ow 0 wc, .int .u64 ba, .int .i64 p, .int .i64 n] 26))).heap.size (W.alloc (.cells #[.int .i64 k, .bool true, .int .i64 0, .string ⟨#[]⟩, .slice ob 0 bc, .slice ow 0 wc, .int .u64 ba, .int .i64 p, .int .i64 n] 26)) w' := by
    refine (among_c ga ba hba).mono ?_
    rintro e w' ⟨⟨f, n, rfl, hx⟩, hB⟩
    obtain ⟨rfl, rfl⟩ := hx id _ hi hc
    rw [hi]
    refine ⟨?_, hB⟩
    show Ending.returned (.tuple #[.int .i64 (shp k2 false), .int .i64 bs.length, .bool true]) = _
    rw [e3]
  have ce : ∀ w, Calls Try.prog 38 #[.int .i64 k] w fun e w' => e = .returned (.int .i64 (elB k : Nat)) ∧ w' = w := fun w => elementBytes_c k w
  have kp : Hid (∀ w2, Below ((W.alloc (.cells #[.int .i64 k, .bool true, .int .i64 0, .string ⟨#[]⟩, .slice ob 0 bc, .slice ow 0 wc, .int .u64 ba, .int .i64 p, .int .i64 n] 26))).heap.size (W.alloc (.cells #[.int .i64 k, .bool true, .int .i64 0, .string ⟨#[]⟩, .slice ob 0 bc, .slice ow 0 wc, .int .u64 ba, .int .i64 p, .int .i64 n] 26)) w2 → (∀ j, w2.cell? ⟨W.heap.size, j, none⟩ = #[.int .i64 k, .bool true, .int .i64 0, .string ⟨#[]⟩, .slice ob 0 bc, .slice ow 0 wc, .int .u64 ba, .int .i64 p, .int .i64 n][j]?) ∧ Below W.heap.size W w2) := by
    show ∀ w2, _
    intro w2 hB2
    exact ⟨fun j => (World.cell?_of_block (a := ⟨W.heap.size, j, none⟩) (hB2.block W.heap.size (by omega))).trans (e1 j), hB1.trans (hB2.mono hB1.size)⟩
  clear ok hc g ga hB1 e1 hs1
  generalize hev : elB k = ev at *
  generalize hnn : bs.length = nn at *
  have e0 : ¬ ((ev : Nat) : Int) = 0 := by omega
  have p0 : ¬ (p : Int) < 0 := by omega
  have p1 : ¬ (p : Int) > nn := by omega
  have p2 : Int.tmod (p : Int) (ev : Int) = 0 := by rw [Int.tmod_eq_emod_of_nonneg (by omega)]; omega
  have p3 : IntKind.i64.wrap ((nn : Int) - p) = ((nn - p : Nat) : Int) := by rw [IntKind.wrap_i64]; omega
  have p4 : Int.tdiv ((nn - p : Nat) : Int) (ev : Int) = (((nn - p) / ev : Nat) : Int) := by rw [Int.tdiv_eq_ediv_of_nonneg (by omega)]; omega
  have n0 : (n : Int) ≥ 0 := by omega
  have n1 : (n : Int) ≤ (((nn - p) / ev : Nat) : Int) := by omega
  have hQ : (nn - p) / ev ≤ 8388608 := by have := Nat.div_le_self (nn - p) ev; omega
  have wQ : wrap64 (((nn - p) / ev : Nat) : Int) = (((nn - p) / ev : Nat) : Int) := by unfold wrap64; omega
  generalize (nn - p) / ev = Q at *
  generalize nn - p = D at *
  clear hp hpm hn hk hk2 hev hnn hi e3
  go_enter Try.func39, Try.ntmps39
  go_upto_region 7 with (first | (go_at_call 23; (with_reducible refine cf.mono ?_); rintro e w2 ⟨rfl, hB2⟩; clear cf; (obtain ⟨z, hBf⟩ := kp.out w2 hB2); (have HBf := hid hBf); clear hBf hB2 kp) | (go_at_call 38; (with_reducible refine (ce _).mono ?_); rintro e w' ⟨rfl, hw⟩; (have hw' := hw.symm); subst hw'; clear hw))
  go_quiet (fail)
  go_wp2
  go_ret
  exact ⟨rfl, ⟨HBf.out.os, HBf.out.tape, HBf.out.output, HBf.out.size, HBf.out.block⟩⟩
set_option maxRecDepth 100000 in
theorem right_view (g : HLay W hb sb vc T H u h) (k : Int) (hk : elB k > 0) (ob ow : Option Addr) (bc wc ba p n : Nat) (hba : ba < 18446744073709551616) (id : Nat) (hi : hit H ba = some id) (k2 : Int) (bs : List Nat) (hc : H[id]? = some (some (.buf k2 bs))) (hp : p ≤ bs.length) (hpm : p % elB k = 0) (hn : n ≤ (bs.length - p) / elB k) : Calls Try.prog 22 #[.agg #[.int .i64 k, .bool true, .int .i64 0, .string ⟨#[]⟩, .slice ob 0 bc, .slice ow 0 wc, .int .u64 ba, .int .i64 p, .int .i64 n], (.func (.func 23) #[.pointer (some ⟨hb, 0, none⟩)] #[])] W fun e w' => e = .returned (.bool true) ∧ Below W.heap.size W w' := by
  have cp : ∀ w, Calls Try.prog 37 #[.agg #[.int .i64 k, .bool true, .int .i64 0, .string ⟨#[]⟩, .slice ob 0 bc, .slice ow 0 wc, .int .u64 ba, .int .i64 p, .int .i64 n]] w fun e w' => e = .returned (.bool true) ∧ Below w.heap.size w w' := fun w => plain_view k hk ob ow bc wc ba p n w
  have cs : ∀ w, Calls Try.prog 36 #[.int .i64 k, .bool true] w fun e w' => e = .returned (.int .i64 4) ∧ w' = w := fun w => shape_view k hk w
  have hB := (show Below W.heap.size W (W.alloc (.cells #[.int .i64 k, .bool true, .int .i64 0, .string ⟨#[]⟩, .slice ob 0 bc, .slice ow 0 wc, .int .u64 ba, .int .i64 p, .int .i64 n] 26)) from (Below.refl _ W).alloc (Nat.le_refl _) _)
  have hs1 : ((W.alloc (.cells #[.int .i64 k, .bool true, .int .i64 0, .string ⟨#[]⟩, .slice ob 0 bc, .slice ow 0 wc, .int .u64 ba, .int .i64 p, .int .i64 n] 26))).heap.size = W.heap.size + 1 := World.size_alloc ..
  have cv : ∀ w, Below W.heap.size W w → Calls Try.prog 39 #[.agg #[.int .i64 k, .bool true, .int .i64 0, .string ⟨#[]⟩, .slice ob 0 bc, .slice ow 0 wc, .int .u64 ba, .int .i64 p, .int .i64 n], (.func (.func 23) #[.pointer (some ⟨hb, 0, none⟩)] #[])] w fun e w' => e = .returned (.bool true) ∧ Below w.heap.size w w' := fun w hb' => rightView_c (g.below hb') k hk ob ow bc wc ba p n hba id hi k2 bs hc hp hpm hn
  have kp : Hid (∀ w2, Below ((W.alloc (.cells #[.int .i64 k, .bool true, .int .i64 0, .string ⟨#[]⟩, .slice ob 0 bc, .slice ow 0 wc, .int .u64 ba, .int .i64 p, .int .i64 n] 26))).heap.size (W.alloc (.cells #[.int .i64 k, .bool true, .int .i64 0, .string ⟨#[]⟩, .slice ob 0 bc, .slice ow 0 wc, .int .u64 ba, .int .i64 p, .int .i64 n] 26)) w2 → (∀ j, w2.cell? ⟨W.heap.size, j, none⟩ = #[.int .i64 k, .bool true, .int .i64 0, .string ⟨#[]⟩, .slice ob 0 bc, .slice ow 0 wc, .int .u64 ba, .int .i64 p, .int .i64 n][j]?) ∧ Below W.heap.size W w2) := by
    show ∀ w2, _
    intro w2 hB2
    exact ⟨fun j => (World.cell?_of_block (a := ⟨W.heap.size, j, none⟩) (hB2.block W.heap.size (by omega))).trans (World.cell?_alloc_new W #[.int .i64 k, .bool true, .int .i64 0, .string ⟨#[]⟩, .slice ob 0 bc, .slice ow 0 wc, .int .u64 ba, .int .i64 p, .int .i64 n] 26 j), hB.trans (hB2.mono hB.size)⟩
  clear hs1 hk hc hp hpm hn hi g hB
  go_enter Try.func22, Try.ntmps22
  go_wp2_with (first | (go_at_call 37; (with_reducible refine (cp _).mono ?_); rintro e w2 ⟨rfl, hB2⟩; clear cp; (obtain ⟨z, hBf⟩ := kp.out w2 hB2); (have HBf := hid hBf); clear hBf hB2) | (go_at_call 36; (with_reducible refine (cs _).mono ?_); rintro e w' ⟨rfl, hw⟩; (have hw' := hw.symm); subst hw'; clear hw) | (go_at_call 39; (with_reducible refine (cv _ HBf.out).mono ?_); rintro e w3 ⟨rfl, hB3⟩; clear cv))
  go_ret
  exact ⟨rfl, HBf.out.trans (hB3.mono HBf.out.size)⟩
theorem put_view {S : Nat → Prop} (g : HSt W S hb H u) (hS : ∀ k, S k → k < W.heap.size) (k : Int) (hk : elB k > 0) (ba p n : Nat) (hba : ba < 18446744073709551616) (id : Nat) (hi : hit H ba = some id) (k2 : Int) (bs : List Nat) (hc : H[id]? = some (some (.buf k2 bs))) (hp : p ≤ bs.length) (hpm : p % elB k = 0) (hn : n ≤ (bs.length - p) / elB k) (ob ow : Option Addr) (bc wc : Nat) (vr : Value) (rs : List Nat) (hr : WordsAt W vr rs) :
    Calls Try.prog 12 #[.pointer (some ⟨hb, 0, none⟩), .agg #[.int .i64 k, .bool true, .int .i64 0, .string ⟨#[]⟩, .slice ob 0 bc, .slice ow 0 wc, .int .u64 ba, .int .i64 p, .int .i64 n], vr] W (PutPost W S hb (roomH H u (.view k ba p n) rs) u (.view k ba p n)) := by
  obtain ⟨sb0, vc0, T0, g1⟩ := g.lay
  have ok := g1.ok id _ hc
  have hl8 : bs.length ≤ 8388608 := ok.2.2
  have hn8 : n ≤ 8388608 := by
    have := Nat.div_le_self (bs.length - p) (elB k)
    omega
  refine hput_c g hS (.view k ba p n) ⟨hk, hba, by omega, hn8⟩ 0 ⟨#[]⟩ ob ow 0 bc 0 wc (by decide) (by decide) (by decide) ?_ (words_nil W ow wc) hba ?_ ?_ vr rs hr
  · show sizeV k true 0 0 0 = 0
    have e4 : shp k true = 4 := by
      unfold shp
      simp [hk]
    unfold sizeV
    rw [e4]; rfl
  · intro w hB
    exact right_view (g1.below hB) k hk ob ow bc wc ba p n hba id hi k2 bs hc hp hpm hn
  · intro sb h W' T' vc' H' id' hl' hi' hT hU
    have e : (Hc.view k ba p n).zero = .view k ba p n := rfl
    rw [e] at hi'
    refine (save_view hb id' k hk ob ow bc wc ba p n W').mono ?_
    rintro e w' ⟨rfl, hB⟩
    have es : H'.set id' (some (.view k ba p n)) = H' := by
      apply List.ext_getElem?
      intro i
      by_cases c : i = id'
      · subst c; rw [List.getElem?_set_self (List.getElem?_eq_some_iff.1 hi').1, hi']
      · rw [List.getElem?_set_ne (Ne.symm c)]
    rw [es]
    exact ⟨rfl, Upd.of_below hB, hl'.below hB⟩
end
end Go.Proofs.Ytaebnnkhjlidiaa.W
/- Package heap: where bytes stand (place); Read, Write, of buffers and views; Set. -/
namespace Go.Proofs.Ytaebnnkhjlidiaa.W
open Go.ChangeShapes Go.WideShapes Go.RowKit Go.Shelf
set_option linter.unusedVariables false
section
variable {W W' : World} {hb sb : Nat} {vc : Value} {T : Nat → Prop} {H : List (Option Hc)} {u h : Nat}
set_option maxRecDepth 100000 in
set_option maxHeartbeats 1000000 in
theorem place_buf (g : HLay W hb sb vc T H u h) (w : Nat) (hw : w < 18446744073709551616) (id : Nat) (hi : hit H w = some id) (k : Int) (bs : List Nat) (hc : H[id]? = some (some (.buf k bs))) (wd : Nat) (hwd : wd = 1 ∨ wd = 2 ∨ wd = 4 ∨ wd = 8) (off : Int) (ho0 : -9223372036854775808 ≤ off) (ho1 : off ≤ 9223372036854775807) :
    Calls Try.prog 35 #[.pointer (some ⟨hb, 0, none⟩), .int .u64 w, .int .i64 off, .int .i64 wd] W fun e w' => e = .returned (if 0 ≤ off ∧ off + wd ≤ bs.length then .tuple #[.int .i64 id, .int .i64 off, .int .i64 0] else .tuple #[.int .i64 0, .int .i64 0, .int .i64 31]) ∧ Below W.heap.size W w' := by
  have hidl : id < H.length := (List.getElem?_eq_some_iff.1 hc).1
  obtain ⟨b, cap, hvc, hcell, _⟩ := g.at hidl
  have c1 := g.cell 1
  simp only [List.getElem?_cons_succ, List.getElem?_cons_zero] at c1
  rw [hvc] at c1
  have k0 := hcell 0 _ hc (by omega)
  have k1 := hcell 1 _ hc (by omega)
  have k2 := hcell 2 _ hc (by omega)
  have k3 := hcell 3 _ hc (by omega)
  have k4 := hcell 4 _ hc (by omega)
  simp only [clO, Hc.cl, Cl.cells, List.getElem?_cons_succ, List.getElem?_cons_zero, Nat.add_zero] at k0 k1 k2 k3 k4
  have j0 : (0 : Int) ≤ id := by omega
  have j1 : (id : Int) < H.length := by omega
  have ok := g.ok id _ hc
  have hk : elB k > 0 := ok.1
  have hl8 : bs.length ≤ 8388608 := ok.2.2
  clear hcell
  have hB1 : Below W.heap.size W (W.alloc (.cells #[.int .i64 k, .bool false, .int .u64 0, .int .i64 0, .int .i64 0] 76)) := (Below.refl _ W).alloc (Nat.le_refl _) _
  have cf := find_c g w hw
  rw [hi] at cf
  simp only [Option.getD_some, Option.isSome_some] at cf
  have ce : ∀ w, Calls Try.prog 38 #[.int .i64 k] w fun e w' => e = .returned (.int .i64 (elB k : Nat)) ∧ w' = w := fun w => elementBytes_c k w
  have cb : Calls Try.prog 41 #[.pointer (some ⟨hb, 0, none⟩), .int .i64 id] (W.alloc (.cells #[.int .i64 k, .bool false, .int .u64 0, .int .i64 0, .int .i64 0] 76)) fun e w' => e = .returned (.int .i64 bs.length) ∧ w' = (W.alloc (.cells #[.int .i64 k, .bool false, .int .u64 0, .int .i64 0, .int .i64 0] 76)) := bytes_c (g.below hB1) id _ hc
  have e1 := World.cell?_alloc_new W #[.int .i64 k, .bool false, .int .u64 0, .int .i64 0, .int .i64 0] 76
  have e0 : ¬ ((elB k : Nat) : Int) = 0 := by omega
  have hout : Hid (∀ m : Nat, Below W.heap.size W ((W.alloc (.cells #[.int .i64 k, .bool false, .int .u64 0, .int .i64 0, .int .i64 0] 76)).drewN m)) := fun m => ⟨hB1.os, hB1.tape, hB1.output, hB1.size, hB1.block⟩
  generalize ((elB k : Nat) : Int) = E at *
  generalize hnn : bs.length = nn at *
  have hsub : IntKind.i64.wrap ((nn : Int) - wd) = (nn : Int) - wd := by rw [IntKind.wrap_i64]; omega
  have hz : IntKind.i64.wrap (0 + off) = off := by rw [IntKind.wrap_i64]; omega
  have hd : (wd : Int) = 1 ∨ (wd : Int) = 2 ∨ (wd : Int) = 4 ∨ (wd : Int) = 8 := by omega
  clear hwd
  generalize ((wd : Nat) : Int) = d at *
  by_cases hlo : off < 0
  · rw [if_neg (by omega)]
    clear hz
    rcases hd with rfl | rfl | rfl | rfl
    all_goals (
      clear g ok hc hB1
      go_enter Try.func35, Try.ntmps35
      go_wp2_with (first | (go_at_call 28; (with_reducible refine cf.mono ?_); rintro e w' ⟨rfl, hw⟩; (have hw' := hw.symm); subst hw'; clear hw) | (go_at_call 38; (with_reducible refine (ce _).mono ?_); rintro e w' ⟨rfl, hw⟩; (have hw' := hw.symm); subst hw'; clear hw) | (go_at_call 41; (with_reducible refine cb.mono ?_); rintro e w' ⟨rfl, hw⟩; (have hw' := hw.symm); subst hw'; clear hw))
      go_ret3
      exact ⟨rfl, hout.out 0⟩)
  · by_cases hhi : off + d ≤ nn
    · rw [if_pos ⟨by omega, hhi⟩]
      have g1 : ¬ off > (nn : Int) - d := by omega
      clear hhi
      rcases hd with rfl | rfl | rfl | rfl
      all_goals (
        clear g ok hc hB1
        go_enter Try.func35, Try.ntmps35
        go_upto_region 13 with (first | (go_at_call 28; (with_reducible refine cf.mono ?_); rintro e w' ⟨rfl, hw⟩; (have hw' := hw.symm); subst hw'; clear hw) | (go_at_call 38; (with_reducible refine (ce _).mono ?_); rintro e w' ⟨rfl, hw⟩; (have hw' := hw.symm); subst hw'; clear hw) | (go_at_call 41; (with_reducible refine cb.mono ?_); rintro e w' ⟨rfl, hw⟩; (have hw' := hw.symm); subst hw'; clear hw))
        go_quiet (fail)
        go_wp2
        go_ret3
        exact ⟨rfl, hout.out _⟩)
    · rw [if_neg (by omega)]
      have g1 : off > (nn : Int) - d := by omega
      clear hhi hz
      rcases hd with rfl | rfl | rfl | rfl
      all_goals (
        clear g ok hc hB1
        go_enter Try.func35, Try.ntmps35
        go_wp2_with (first | (go_at_call 28; (with_reducible refine cf.mono ?_); rintro e w' ⟨rfl, hw⟩; (have hw' := hw.symm); subst hw'; clear hw) | (go_at_call 38; (with_reducible refine (ce _).mono ?_); rintro e w' ⟨rfl, hw⟩; (have hw' := hw.symm); subst hw'; clear hw) | (go_at_call 41; (with_reducible refine cb.mono ?_); rintro e w' ⟨rfl, hw⟩; (have hw' := hw.symm); subst hw'; clear hw))
        go_ret3
        exact ⟨rfl, hout.out 0⟩)
end
end Go.Proofs.Ytaebnnkhjlidiaa.W
/- Package heap: place, of a view; Read, Write, of buffers and views; Set. -/
namespace Go.Proofs.Ytaebnnkhjlidiaa.W
open Go.ChangeShapes Go.WideShapes Go.RowKit Go.Shelf
set_option linter.unusedVariables false
section
variable {W W' : World} {hb sb : Nat} {vc : Value} {T : Nat → Prop} {H : List (Option Hc)} {u h : Nat}
set_option maxRecDepth 100000 in
set_option maxHeartbeats 1000000 in
theorem place_view (g : HLay W hb sb vc T H u h) (w : Nat) (hw : w < 18446744073709551616) (id : Nat) (hi : hit H w = some id) (k : Int) (ba p n : Nat) (hc : H[id]? = some (some (.view k ba p n))) (t : Nat) (hit2 : hit H ba = some t) (wd : Nat) (hwd : wd = 1 ∨ wd = 2 ∨ wd = 4 ∨ wd = 8) (off : Int) (ho0 : -9223372036854775808 ≤ off) (ho1 : off ≤ 9223372036854775807) :
    Calls Try.prog 35 #[.pointer (some ⟨hb, 0, none⟩), .int .u64 w, .int .i64 off, .int .i64 wd] W fun e w' => e = .returned (if 0 ≤ off ∧ off + wd ≤ (n * elB k : Nat) then .tuple #[.int .i64 t, .int .i64 (p + off), .int .i64 0] else .tuple #[.int .i64 0, .int .i64 0, .int .i64 31]) ∧ Below W.heap.size W w' := by
  have hidl : id < H.length := (List.getElem?_eq_some_iff.1 hc).1
  obtain ⟨b, cap, hvc, hcell, _⟩ := g.at hidl
  have c1 := g.cell 1
  simp only [List.getElem?_cons_succ, List.getElem?_cons_zero] at c1
  rw [hvc] at c1
  have k0 := hcell 0 _ hc (by omega)
  have k1 := hcell 1 _ hc (by omega)
  have k2 := hcell 2 _ hc (by omega)
  have k3 := hcell 3 _ hc (by omega)
  have k4 := hcell 4 _ hc (by omega)
  simp only [clO, Hc.cl, Cl.cells, List.getElem?_cons_succ, List.getElem?_cons_zero, Nat.add_zero] at k0 k1 k2 k3 k4
  have j0 : (0 : Int) ≤ id := by omega
  have j1 : (id : Int) < H.length := by omega
  have ok := g.ok id _ hc
  have hk : elB k > 0 := ok.1
  have hn8 : n ≤ 8388608 := ok.2.2.2
  have hp8 : p ≤ 8388608 := ok.2.2.1
  have hba : ba < 18446744073709551616 := ok.2.1
  clear hcell
  have hB1 : Below W.heap.size W (W.alloc (.cells #[.int .i64 k, .bool true, .int .u64 ba, .int .i64 p, .int .i64 n] 76)) := (Below.refl _ W).alloc (Nat.le_refl _) _
  have cf := find_c g w hw
  rw [hi] at cf
  simp only [Option.getD_some, Option.isSome_some] at cf
  have ce : ∀ w, Calls Try.prog 38 #[.int .i64 k] w fun e w' => e = .returned (.int .i64 (elB k : Nat)) ∧ w' = w := fun w => elementBytes_c k w
  have cb : Calls Try.prog 41 #[.pointer (some ⟨hb, 0, none⟩), .int .i64 id] (W.alloc (.cells #[.int .i64 k, .bool true, .int .u64 ba, .int .i64 p, .int .i64 n] 76)) fun e w' => e = .returned (.int .i64 0) ∧ w' = (W.alloc (.cells #[.int .i64 k, .bool true, .int .u64 ba, .int .i64 p, .int .i64 n] 76)) := bytes_c (g.below hB1) id _ hc
  have cf2 := find_c (g.below hB1) ba hba
  rw [hit2] at cf2
  simp only [Option.getD_some, Option.isSome_some] at cf2
  have e1 := World.cell?_alloc_new W #[.int .i64 k, .bool true, .int .u64 ba, .int .i64 p, .int .i64 n] 76
  have e0 : ¬ ((elB k : Nat) : Int) = 0 := by omega
  have hout : Hid (∀ m : Nat, Below W.heap.size W ((W.alloc (.cells #[.int .i64 k, .bool true, .int .u64 ba, .int .i64 p, .int .i64 n] 76)).drewN m)) := fun m => ⟨hB1.os, hB1.tape, hB1.output, hB1.size, hB1.block⟩
  have hel : elB k ≤ 8 := by rcases elB_cases k with h | h | h | h | h <;> omega
  have hmul : IntKind.i64.wrap ((n : Int) * ((elB k : Nat) : Int)) = ((n * elB k : Nat) : Int) := by
    have h1 : n * elB k ≤ n * 8 := Nat.mul_le_mul_left n hel
    have h2 : ((n * elB k : Nat) : Int) = (n : Int) * ((elB k : Nat) : Int) := by simp
    rw [IntKind.wrap_i64, ← h2]; omega
  have hnl : n * elB k ≤ 67108864 := by
    have h1 : n * elB k ≤ n * 8 := Nat.mul_le_mul_left n hel
    omega
  generalize n * elB k = nn at *
  generalize ((elB k : Nat) : Int) = E at *
  clear hel
  have hsub : IntKind.i64.wrap ((nn : Int) - wd) = (nn : Int) - wd := by rw [IntKind.wrap_i64]; omega
  have hz : 0 ≤ off → off + wd ≤ nn → IntKind.i64.wrap ((p : Int) + off) = (p : Int) + off := by intro a1 a2; rw [IntKind.wrap_i64]; omega
  have hd : (wd : Int) = 1 ∨ (wd : Int) = 2 ∨ (wd : Int) = 4 ∨ (wd : Int) = 8 := by omega
  clear hwd
  generalize ((wd : Nat) : Int) = d at *
  by_cases hlo : off < 0
  · rw [if_neg (by omega)]
    clear hz
    rcases hd with rfl | rfl | rfl | rfl
    all_goals (
      clear g ok hc hB1
      go_enter Try.func35, Try.ntmps35
      go_upto_region 10 with (first | (go_at_call 28; (with_reducible refine cf.mono ?_); rintro e w' ⟨rfl, hw⟩; (have hw' := hw.symm); subst hw'; clear hw; clear cf) | (go_at_call 28; (with_reducible refine cf2.mono ?_); rintro e w' ⟨rfl, hw⟩; (have hw' := hw.symm); subst hw'; clear hw) | (go_at_call 38; (with_reducible refine (ce _).mono ?_); rintro e w' ⟨rfl, hw⟩; (have hw' := hw.symm); subst hw'; clear hw) | (go_at_call 41; (with_reducible refine cb.mono ?_); rintro e w' ⟨rfl, hw⟩; (have hw' := hw.symm); subst hw'; clear hw))
      go_quiet ((go_at_call 38; exact Calls.quiet_of_same (ce _)))
      go_wp2
      go_ret3
      exact ⟨rfl, ⟨(hout.out 0).os, (hout.out 0).tape, (hout.out 0).output, (hout.out 0).size, (hout.out 0).block⟩⟩)
  · by_cases hhi : off + d ≤ nn
    · rw [if_pos ⟨by omega, hhi⟩]
      have g1 : ¬ off > (nn : Int) - d := by omega
      have hz := hz (by omega) hhi
      clear hhi
      rcases hd with rfl | rfl | rfl | rfl
      all_goals (
        clear g ok hc hB1
        go_enter Try.func35, Try.ntmps35
        go_upto_region 10 with (first | (go_at_call 28; (with_reducible refine cf.mono ?_); rintro e w' ⟨rfl, hw⟩; (have hw' := hw.symm); subst hw'; clear hw; clear cf) | (go_at_call 28; (with_reducible refine cf2.mono ?_); rintro e w' ⟨rfl, hw⟩; (have hw' := hw.symm); subst hw'; clear hw) | (go_at_call 38; (with_reducible refine (ce _).mono ?_); rintro e w' ⟨rfl, hw⟩; (have hw' := hw.symm); subst hw'; clear hw) | (go_at_call 41; (with_reducible refine cb.mono ?_); rintro e w' ⟨rfl, hw⟩; (have hw' := hw.symm); subst hw'; clear hw))
        go_quiet ((go_at_call 38; exact Calls.quiet_of_same (ce _)))
        go_upto_region 13 with fail
        go_quiet (fail)
        go_wp2
        go_ret3
        exact ⟨rfl, ⟨(hout.out 0).os, (hout.out 0).tape, (hout.out 0).output, (hout.out 0).size, (hout.out 0).block⟩⟩)
    · rw [if_neg (by omega)]
      have g1 : off > (nn : Int) - d := by omega
      clear hhi hz
      rcases hd with rfl | rfl | rfl | rfl
      all_goals (
        clear g ok hc hB1
        go_enter Try.func35, Try.ntmps35
        go_upto_region 10 with (first | (go_at_call 28; (with_reducible refine cf.mono ?_); rintro e w' ⟨rfl, hw⟩; (have hw' := hw.symm); subst hw'; clear hw; clear cf) | (go_at_call 28; (with_reducible refine cf2.mono ?_); rintro e w' ⟨rfl, hw⟩; (have hw' := hw.symm); subst hw'; clear hw) | (go_at_call 38; (with_reducible refine (ce _).mono ?_); rintro e w' ⟨rfl, hw⟩; (have hw' := hw.symm); subst hw'; clear hw) | (go_at_call 41; (with_reducible refine cb.mono ?_); rintro e w' ⟨rfl, hw⟩; (have hw' := hw.symm); subst hw'; clear hw))
        go_quiet ((go_at_call 38; exact Calls.quiet_of_same (ce _)))
        go_wp2
        go_ret3
        exact ⟨rfl, ⟨(hout.out 0).os, (hout.out 0).tape, (hout.out 0).output, (hout.out 0).size, (hout.out 0).block⟩⟩)
/-- where the elements of a thing of bytes stand: cell t, of kind k2 and with the bytes bs, from p on; n bytes -/
structure Spot (H : List (Option Hc)) (w : Nat) (k : Int) (t p n : Nat) (k2 : Int) (bs : List Nat) : Prop where
  w64 : w < 18446744073709551616
  cell : H[t]? = some (some (.buf k2 bs))
  fit : p + n ≤ bs.length
  road : ∃ id, hit H w = some id ∧ ((H[id]? = some (some (.buf k bs)) ∧ t = id ∧ p = 0 ∧ n = bs.length ∧ k2 = k) ∨ ∃ ba c, H[id]? = some (some (.view k ba p c)) ∧ hit H ba = some t ∧ n = c * elB k)
theorem place_c {w : Nat} {k k2 : Int} {t p n : Nat} {bs : List Nat} (g : HLay W hb sb vc T H u h) (s : Spot H w k t p n k2 bs) (wd : Nat) (hwd : wd = 1 ∨ wd = 2 ∨ wd = 4 ∨ wd = 8) (off : Int) (ho0 : -9223372036854775808 ≤ off) (ho1 : off ≤ 9223372036854775807) :
    Calls Try.prog 35 #[.pointer (some ⟨hb, 0, none⟩), .int .u64 w, .int .i64 off, .int .i64 wd] W fun e w' => e = .returned (if 0 ≤ off ∧ off + wd ≤ n then .tuple #[.int .i64 t, .int .i64 (p + off), .int .i64 0] else .tuple #[.int .i64 0, .int .i64 0, .int .i64 31]) ∧ Below W.heap.size W w' := by
  obtain ⟨id, hi, ⟨hc, rfl, rfl, rfl, rfl⟩ | ⟨ba, c, hc, hb2, rfl⟩⟩ := s.road
  · have := place_buf g w s.w64 t hi k2 bs hc wd hwd off ho0 ho1
    rw [show (((0 : Nat) : Int) + off) = off by omega]
    exact this
  · exact place_view g w s.w64 id hi k ba p c hc t hb2 wd hwd off ho0 ho1
theorem hwrite_c {w : Nat} {k k2 : Int} {t p n : Nat} {bs : List Nat} (g : HLay W hb sb vc T H u h) (s : Spot H w k t p n k2 bs) (wd : Nat) (hwd : wd = 1 ∨ wd = 2 ∨ wd = 4 ∨ wd = 8) (o : Nat) (ho : o + wd ≤ n) (ha : (p + o) % wd = 0) (x : Nat) (hx : x < 18446744073709551616) :
    Calls Try.prog 18 #[.pointer (some ⟨hb, 0, none⟩), .int .u64 w, .int .i64 o, .int .i64 wd, .int .u64 x] W fun e w' => e = .returned (.int .i64 0) ∧ Upd T W w' ∧ HLay w' hb sb vc T (H.set t (some (.buf k2 (saved bs (p + o) x wd)))) u h := by
  have hok := g.ok t _ s.cell
  have hl8 : bs.length ≤ 8388608 := hok.2.2
  have hfit := s.fit
  have cp := place_c g s wd hwd o (by omega) (by omega)
  rw [if_pos ⟨by omega, by omega⟩, show ((p : Int) + (o : Int)) = ((p + o : Nat) : Int) by omega] at cp
  have hok2 : (Hc.buf k2 (saved bs (p + o) x wd)).ok := ⟨hok.1, saved_byte _ _ _ _ hok.2.1, by rw [saved_len]; exact hl8⟩
  have cl : ∀ w', Below W.heap.size W w' → Calls Try.prog 32 #[.pointer (some ⟨sb, 0, none⟩), .int .i64 t, .int .i64 (p + o : Nat), .int .i64 wd, .int .u64 x] w' fun e w2 => e = .returned (.int .i64 0) ∧ Hid (Upd T W w2 ∧ HLay w2 hb sb vc T (H.set t (some (.buf k2 (saved bs (p + o) x wd)))) u h) := by
    intro w' hB
    refine (save_st (g.below hB).st t _ (hA_some s.cell) (p + o) wd x hx hwd ha (by show _ ≤ bs.length; omega)).mono ?_
    rintro e w2 ⟨rfl, hU, hS⟩
    exact ⟨rfl, (Upd.of_below hB).trans' hU, (g.below hB).saved t _ (.buf k2 (saved bs (p + o) x wd)) s.cell rfl hok2 hU hS⟩
  have c0 := g.cell 0
  simp only [List.getElem?_cons_zero] at c0
  generalize (some (Hc.buf k2 (saved bs (p + o) x wd))) = X at *
  generalize p + o = P at *
  clear g hok hl8 hfit ha s ho hwd hok2
  go_enter Try.func18, Try.ntmps18
  go_wp2_with (first | (go_at_call 35; (with_reducible refine cp.mono ?_); rintro e w2 ⟨rfl, hB2⟩; clear cp; (have d0 := below_cell hB2 c0)) | (go_at_call 32; (with_reducible refine (cl _ hB2).mono ?_); rintro e w3 ⟨rfl, hf⟩; clear cl))
  go_ret
  exact ⟨rfl, hf.out.1, hf.out.2⟩
theorem hwrite_out {w : Nat} {k k2 : Int} {t p n : Nat} {bs : List Nat} (g : HLay W hb sb vc T H u h) (s : Spot H w k t p n k2 bs) (wd : Nat) (hwd : wd = 1 ∨ wd = 2 ∨ wd = 4 ∨ wd = 8) (off : Int) (ho0 : -9223372036854775808 ≤ off) (ho1 : off ≤ 9223372036854775807) (hout : ¬ (0 ≤ off ∧ off + wd ≤ n)) (x : Int) :
    Calls Try.prog 18 #[.pointer (some ⟨hb, 0, none⟩), .int .u64 w, .int .i64 off, .int .i64 wd, .int .u64 x] W fun e w' => e = .returned (.int .i64 31) ∧ Below W.heap.size W w' := by
  have cp := place_c g s wd hwd off ho0 ho1
  rw [if_neg hout] at cp
  clear g s ho0 ho1 hwd hout
  go_enter Try.func18, Try.ntmps18
  go_wp2_with (go_at_call 35; (with_reducible refine cp.mono ?_); rintro e w2 ⟨rfl, hB2⟩; clear cp)
  go_ret
  exact ⟨rfl, hB2⟩
/-- the handle of a row that has a j-th word -/
theorem slot_c (g : HLay W hb sb vc T H u h) (w : Nat) (hw : w < 18446744073709551616) (id : Nat) (hi : hit H w = some id) (ws : List Nat) (hc : H[id]? = some (some (.row ws))) (j : Nat) (hj : j < ws.length) :
    Calls Try.prog 30 #[.pointer (some ⟨hb, 0, none⟩), .int .u64 w, .int .i64 j] W fun e w' => e = .returned (.tuple #[.int .i64 id, .int .i64 0]) ∧ w' = W := by
  have hidl : id < H.length := (List.getElem?_eq_some_iff.1 hc).1
  obtain ⟨b, cap, hvc, hcell, _⟩ := g.at hidl
  have c1 := g.cell 1
  simp only [List.getElem?_cons_succ, List.getElem?_cons_zero] at c1
  rw [hvc] at c1
  have k0 := hcell 0 _ hc (by omega)
  simp only [clO, Hc.cl, Cl.cells, List.getElem?_cons_zero, Nat.add_zero] at k0
  have j0 : (0 : Int) ≤ id := by omega
  have j1 : (id : Int) < H.length := by omega
  have hok := g.ok id _ hc
  have hl8 : ws.length ≤ 1048576 := hok.2
  have cf := find_c g w hw
  rw [hi] at cf
  simp only [Option.getD_some, Option.isSome_some] at cf
  have cb : Calls Try.prog 41 #[.pointer (some ⟨hb, 0, none⟩), .int .i64 id] W fun e w' => e = .returned (.int .i64 ((ws.flatMap le8).length : Nat)) ∧ w' = W := bytes_c g id _ hc
  rw [row_len] at cb
  have q8 : Int.tdiv ((8 * ws.length : Nat) : Int) 8 = ((ws.length : Nat) : Int) := by rw [Int.tdiv_eq_ediv_of_nonneg (by omega)]; omega
  have q9 : wrap64 ((ws.length : Nat) : Int) = ((ws.length : Nat) : Int) := by have := IntKind.wrap_i64 ((ws.length : Nat) : Int); unfold wrap64; omega
  have q7 : IntKind.i64.wrap ((ws.length : Nat) : Int) = ((ws.length : Nat) : Int) := by rw [IntKind.wrap_i64]; omega
  have x0 : ¬ (j : Int) < 0 := by omega
  have x1 : ¬ (j : Int) ≥ (ws.length : Nat) := by omega
  clear hcell hok hl8 hc hi g hj
  generalize ((8 * ws.length : Nat) : Int) = N8 at *
  generalize ((ws.length : Nat) : Int) = N at *
  go_enter Try.func30, Try.ntmps30
  go_wp2_with (first | (go_at_call 28; (with_reducible refine cf.mono ?_); rintro e w' ⟨rfl, hw⟩; (have hw' := hw.symm); subst hw'; clear hw) | (go_at_call 41; (with_reducible refine cb.mono ?_); rintro e w' ⟨rfl, hw⟩; (have hw' := hw.symm); subst hw'; clear hw))
  go_ret2
  exact ⟨rfl, rfl⟩
theorem hset_c (g : HLay W hb sb vc T H u h) (w : Nat) (hw : w < 18446744073709551616) (id : Nat) (hi : hit H w = some id) (ws : List Nat) (hc : H[id]? = some (some (.row ws))) (j : Nat) (hj : j < ws.length) (x : Nat) (hx : x < 18446744073709551616) (hv : isVal H x = true) :
    Calls Try.prog 15 #[.pointer (some ⟨hb, 0, none⟩), .int .u64 w, .int .i64 j, .int .u64 x] W fun e w' => e = .returned (.int .i64 0) ∧ Upd T W w' ∧ HLay w' hb sb vc T (H.set id (some (.row (ws.set j x)))) u h := by
  have c0 := g.cell 0
  simp only [List.getElem?_cons_zero] at c0
  have csl := slot_c g w hw id hi ws hc j hj
  have ci := isValue_c g x hx
  rw [hv] at ci
  have cs : ∀ w2, Below W.heap.size W w2 → Calls Try.prog 32 #[.pointer (some ⟨sb, 0, none⟩), .int .i64 id, .int .i64 ((j : Int) * 8), .int .i64 8, .int .u64 x] w2 fun e w' => e = .returned (.int .i64 0) ∧ Hid (Upd T W w' ∧ HLay w' hb sb vc T (H.set id (some (.row (ws.set j x)))) u h) := by
    intro w2 hB
    refine (row_step (g.below hB) id ws hc j x hj hx).mono ?_
    rintro e w3 ⟨rfl, hU, hL⟩
    exact ⟨rfl, (Upd.of_below hB).trans' hU, hL⟩
  have hok := g.ok id _ hc
  have hl8 : ws.length ≤ 1048576 := hok.2
  have w8 : IntKind.i64.wrap ((j : Int) * 8) = (j : Int) * 8 := by rw [IntKind.wrap_i64]; omega
  have w9 : wrap64 ((j : Int) * 8) = (j : Int) * 8 := by unfold wrap64; omega
  generalize H.set id (some (.row (ws.set j x))) = HH at *
  clear hok hl8 hc hi g hj
  go_enter Try.func15, Try.ntmps15
  go_wp2_with (first | (go_at_call 30; (with_reducible refine csl.mono ?_); rintro e w' ⟨rfl, hw⟩; (have hw' := hw.symm); subst hw'; clear hw) | (go_at_call 31; (with_reducible refine ci.mono ?_); rintro e w2 ⟨rfl, hB2⟩; (have d0 := below_cell hB2 c0)) | (go_at_call 32; (with_reducible refine (cs _ hB2).mono ?_); rintro e w3 ⟨rfl, hf⟩; clear cs))
  go_ret
  exact ⟨rfl, hf.out.1, hf.out.2⟩
end
/-- a cell is another one of the same need: over a heap that was made -/
theorem sumH_same {H : List (Option Hc)} {i : Nat} {c d : Hc} (hc : H[i]? = some (some c)) (hn : d.need = c.need) : sumH (H.set i (some d)) = sumH H := by
  have hl := (List.getElem?_eq_some_iff.1 hc).1
  have e := (List.getElem?_eq_some_iff.1 hc).2
  have := sumH_set H i (some d) hl
  rw [e] at this
  simp only [needO] at this
  omega
section
variable {W0 W W1 W' : World} {hb : Nat} {H : List (Option Hc)} {u : Nat} {K : Nat → Prop}
/-- what a call that writes into the store leaves, told over Hf -/
theorem hf_calls {f : FuncId} {args : Array Value} {v : Value} {H' : List (Option Hc)} (q : Hf W0 W1 hb H u K) (hs : sumH H' = sumH H)
    (h : ∀ sb vc T, HLay W1 hb sb vc T H u (sumH H) → Calls Try.prog f args W1 fun e w' => e = .returned v ∧ Upd T W1 w' ∧ HLay w' hb sb vc T H' u (sumH H)) :
    Calls Try.prog f args W1 fun e w' => e = .returned v ∧ Hf W0 w' hb H' u K ∧ Upd (Ch W0 K) W1 w' := by
  obtain ⟨h1, S, ⟨sb, vc, T, l, s1, s2, s3, s4⟩, h3, h4⟩ := q
  refine (h sb vc T l).mono ?_
  rintro e w' ⟨rfl, hU, hL⟩
  have hU' : Upd S W1 w' := hU.mono s3
  have hst : HSt w' (Nx S W1 w') hb H' u := ⟨sb, vc, T, by rw [hs]; exact hL, .inl s1, fun k e => .inl (s2 k e), fun k e => .inl (s3 k e), by omega⟩
  exact ⟨rfl, Hf.put h1 h3 h4 hU' hst⟩
theorem buf_need (k k' : Int) (b b' : List Nat) (h : b'.length = b.length) : (Hc.buf k' b').need = (Hc.buf k b).need := by
  unfold Hc.need
  show 1 + (b'.length + 7) / 8 = 1 + (b.length + 7) / 8
  rw [h]
theorem row_need2 (b b' : List Nat) (h : b'.length = b.length) : (Hc.row b').need = (Hc.row b).need := by
  unfold Hc.need
  show 1 + ((b'.flatMap le8).length + 7) / 8 = 1 + ((b.flatMap le8).length + 7) / 8
  rw [row_len, row_len, h]
theorem hf_write {w : Nat} {k k2 : Int} {t p n : Nat} {bs : List Nat} (q : Hf W0 W1 hb H u K) (s : Spot H w k t p n k2 bs) (wd : Nat) (hwd : wd = 1 ∨ wd = 2 ∨ wd = 4 ∨ wd = 8) (o : Nat) (ho : o + wd ≤ n) (ha : (p + o) % wd = 0) (x : Nat) (hx : x < 18446744073709551616) :
    Calls Try.prog 18 #[.pointer (some ⟨hb, 0, none⟩), .int .u64 w, .int .i64 o, .int .i64 wd, .int .u64 x] W1 fun e w' => e = .returned (.int .i64 0) ∧ Hf W0 w' hb (H.set t (some (.buf k2 (saved bs (p + o) x wd)))) u K ∧ Upd (Ch W0 K) W1 w' :=
  hf_calls q (sumH_same s.cell (buf_need _ _ _ _ (saved_len _ _ _ _))) (fun sb vc T l => hwrite_c l s wd hwd o ho ha x hx)
theorem hf_set (q : Hf W0 W1 hb H u K) (w : Nat) (hw : w < 18446744073709551616) (id : Nat) (hi : hit H w = some id) (ws : List Nat) (hc : H[id]? = some (some (.row ws))) (j : Nat) (hj : j < ws.length) (x : Nat) (hx : x < 18446744073709551616) (hv : isVal H x = true) :
    Calls Try.prog 15 #[.pointer (some ⟨hb, 0, none⟩), .int .u64 w, .int .i64 j, .int .u64 x] W1 fun e w' => e = .returned (.int .i64 0) ∧ Hf W0 w' hb (H.set id (some (.row (ws.set j x)))) u K ∧ Upd (Ch W0 K) W1 w' :=
  hf_calls q (sumH_same hc (row_need2 _ _ (by rw [List.length_set]))) (fun sb vc T l => hset_c l w hw id hi ws hc j hj x hx hv)
theorem Hf.lay (q : Hf W0 W1 hb H u K) : ∃ sb vc T, HLay W1 hb sb vc T H u (sumH H) := by
  obtain ⟨_, S, h2, _⟩ := q
  exact h2.lay
end
end Go.Proofs.Ytaebnnkhjlidiaa.W
/- Put of buffers and rows, beside what a statement keeps. -/
namespace Go.Proofs.Ytaebnnkhjlidiaa.W
open Go.ChangeShapes Go.WideShapes Go.RowKit Go.Shelf
set_option linter.unusedVariables false
section
variable {W0 W W1 W' : World} {hb : Nat} {H : List (Option Hc)} {u : Nat} {K K' : Nat → Prop}
/-- whatever is put and fits -/
theorem Hf.fits {S : Nat → Prop} {c : Hc} {rs : List Nat} {e : Ending} {w' : World} (h1 : Below W0.heap.size W0 W1) (h3 : ∀ k, S k → W0.heap.size ≤ k ∧ k < W1.heap.size) (h4 : ∀ k, K k → k < W1.heap.size ∧ ¬ S k) (hf : sumH H + c.need ≤ u) (hP : PutPost W1 S hb (roomH H u c rs) u c e w') : e = .returned (.tuple #[.int .u64 (hw (lid H) : Nat), .int .i64 0]) ∧ Hf W0 w' hb (putH H (lid H) (some c)) u K ∧ Upd (Ch W0 K) W1 w' := by
  have hrm : roomH H u c rs = H := by unfold roomH; rw [if_pos hf]
  rw [hrm] at hP
  obtain ⟨hU, ⟨_, rfl, g⟩ | ⟨hn, _⟩⟩ := hP
  · exact ⟨rfl, Hf.put h1 h3 h4 hU g⟩
  · omega
theorem hf_buf (q : Hf W0 W1 hb H u K) (k : Int) (hk : elB k > 0) (bs : List Nat) (hb256 : ∀ x ∈ bs, x < 256) (hl : bs.length ≤ 8388608) (hmod : bs.length % elB k = 0) (ob ow : Option Addr) (bc wc : Nat) (hcap : bs.length ≤ bc) (hv : ByteRow W1 ob bs) (ho : ∀ x, ob = some x → K x.block) (hf : sumH H + (Hc.buf k bs).need ≤ u) (vr : Value) (rs : List Nat) (hr : WordsAt W1 vr rs) :
    Calls Try.prog 12 #[.pointer (some ⟨hb, 0, none⟩), .agg #[.int .i64 k, .bool false, .int .i64 0, .string ⟨#[]⟩, .slice ob bs.length bc, .slice ow 0 wc, .int .u64 0, .int .i64 0, .int .i64 0], vr] W1 fun e w' => e = .returned (.tuple #[.int .u64 (hw (lid H) : Nat), .int .i64 0]) ∧ Hf W0 w' hb (putH H (lid H) (some (.buf k bs))) u K ∧ Upd (Ch W0 K) W1 w' := by
  obtain ⟨h1, S, h2, h3, h4⟩ := q
  exact (put_buf h2 (fun k e => (h3 k e).2) k hk bs hb256 hl hmod ob ow bc wc hcap hv (fun x e => ⟨(h4 _ (ho x e)).2, (h4 _ (ho x e)).1⟩) vr rs hr).mono (fun e w' hP => Hf.fits h1 h3 h4 hf hP)
theorem hf_row (q : Hf W0 W1 hb H u K) (ws : List Nat) (hl : ws.length ≤ 1048576) (hv64 : ∀ w ∈ ws, w < 18446744073709551616) (hval : ∀ w ∈ ws, isVal H w = true) (ow : Option Addr) (wc : Nat) (hv : WordsAt W1 (.slice ow ws.length wc) ws) (ho : ∀ x, ow = some x → K x.block) (hf : sumH H + (Hc.row ws).need ≤ u) (vr : Value) (rs : List Nat) (hr : WordsAt W1 vr rs) :
    Calls Try.prog 12 #[.pointer (some ⟨hb, 0, none⟩), .agg #[.int .i64 9, .bool false, .int .i64 0, .string ⟨#[]⟩, .slice none 0 0, .slice ow ws.length wc, .int .u64 0, .int .i64 0, .int .i64 0], vr] W1 fun e w' => e = .returned (.tuple #[.int .u64 (hw (lid H) : Nat), .int .i64 0]) ∧ Hf W0 w' hb (putH H (lid H) (some (.row ws))) u K ∧ Upd (Ch W0 K) W1 w' := by
  obtain ⟨h1, S, h2, h3, h4⟩ := q
  refine (put_row h2 (fun k e => (h3 k e).2) ws hl hv64 hval none ow 0 wc hv ?_ vr rs hr).mono (fun e w' hP => Hf.fits h1 h3 h4 hf hP)
  intro o n cap e k
  cases e
  have := h4 _ (ho o rfl)
  rcases k with k | k
  · exact this.2 k
  · omega
end
end Go.Proofs.Ytaebnnkhjlidiaa.W
/- slices.AppendSeq over a row's words; load and Get, of a row. -/
namespace Go.Proofs.Ytaebnnkhjlidiaa.W
open Go.ChangeShapes Go.WideShapes Go.RowKit Go.Shelf
set_option linter.unusedVariables false
/-- an append in a round -/
theorem gi_append {P : Program} {F : Fence} {n : Nat} {L : Option Nat} (w : World) {o : Oper} {a : Act} {K : Act → World → Prop} {Q : Exit → Act → World → Prop} (s x : Operand) (t tn : TypeId)
    (ho : o.op = .call { callee := .builtin .append, args := #[s, x], argTypes := #[t, tn] }) (vs vx : Value) (hs : a.eval s = vs) (hx : a.eval x = vx)
    (v' : Value) (w' : World) (hr : (Builtin.append_ #[t, tn] o.type #[vs, vx]).run P w = .ok v' w') (h : K (a.put o.dst v') w') : o.uponIn F n P a K Q ((Oper.semAt L a.eval o).run P w) := by
  rw [Oper.semAt_eq _ _ _ (fun c e => by rw [ho] at e; cases e)]
  unfold execOp
  simp only [ho, resolve, invoke, builtin, Sem.run_bind, Sem.run_pure, Result.andThen_ok, List.map_toArray, List.map_cons, List.map_nil, hs, hx, hr]
  exact h
/-- a word is put behind a row of words -/
theorem append_one (W : World) (ty : TypeId) (v : Value) (n : Nat) (xs : List Value) {B0 : Nat} (hown : W.ownsRow B0 24 1 v n xs) (x : Nat) (hn : n ≤ 2000000) : ∃ v' w', (Builtin.append_ #[23, 23] ty #[v, .slice (some ⟨W.heap.size, 0, none⟩) 1 1]).run Try.prog (W.alloc (.cells #[.int .u64 (x : Nat)] 24)) = .ok v' w' ∧ w'.ownsRow 0 24 1 v' (n + 1) (xs ++ [.int .u64 (x : Nat)]) ∧ (W.alloc (.cells #[.int .u64 (x : Nat)] 24)).grownBy w' v.ownBlock ∧ (∀ k, v'.ownBlock = some k → v.ownBlock = some k ∨ ((W.alloc (.cells #[.int .u64 (x : Nat)] 24)).heap.size ≤ k ∧ k < w'.heap.size)) := by
  obtain ⟨i0, hi, hz0, hz1, hz2⟩ := info_parts infoW
  have e0 := World.cell?_alloc_new W #[.int .u64 (x : Nat)] 24
  have ho := hown.alloc (.cells #[.int .u64 (x : Nat)] 24)
  exact append_at (P := Try.prog) (W.alloc (.cells #[.int .u64 (x : Nat)] 24)) 23 ty 24 i0 (.int .u64 0) 1 8 underW hi hz0 hz1 hz2 rfl (by omega) v n xs (owns_base ho (fun _ _ => Nat.zero_le _)) ⟨W.heap.size, 0, none⟩ 1 1 [.int .u64 (x : Nat)] (by simp) (by
    intro j y hj
    have hj0 : j = 0 := by have := (List.getElem?_eq_some_iff.1 hj).1; simp at this; exact this
    subst hj0
    simp at hj
    subst hj
    have e1 : ((⟨W.heap.size, 0, none⟩ : Addr).add 0) = ⟨W.heap.size, 0, none⟩ := by unfold Addr.add; split <;> simp_all
    rw [e1, e0 0]; rfl) (by intro y hy; simp at hy; rw [hy]; rfl) (by omega) (by omega) (by omega)
section
variable {W W' : World} {hb sb : Nat} {vc : Value} {T : Nat → Prop} {H : List (Option Hc)} {u h : Nat}
/-- along AppendSeq: i words are there -/
structure AqI (B0 : Nat) (W : World) (hb sb : Nat) (vc : Value) (T : Nat → Prop) (H : List (Option Hc)) (u h id Bh Bi Bs : Nat) (ws : List Nat) (i : Nat) (W' : World) : Prop where
  lay : HLay W' hb sb vc T H u h
  b0 : Boxed W' Bh 31 (.pointer (some ⟨hb, 0, none⟩))
  b1 : Boxed W' Bi 3 (.int .i64 id)
  s : ∃ v, Boxed W' Bs 23 v ∧ W'.ownsRow B0 24 1 v i ((ws.take i).map (fun x => .int .u64 (x : Nat)))
  bel : Below B0 W W'
theorem AqI.upd {B0 id Bh Bi Bs i : Nat} {ws : List Nat} {w2 : World} {S : Nat → Prop} (hlo : hb < B0 ∧ (∀ k, vc.ownBlock = some k → k < B0) ∧ ∀ k, T k → k < B0) (q : AqI B0 W hb sb vc T H u h id Bh Bi Bs ws i W') (hu : Upd S W' w2) (hS : ∀ k, S k → B0 ≤ k) (h0 : ¬ S Bh) (h1 : ¬ S Bi) (h2 : ¬ S Bs) (h3 : ∀ v, Boxed W' Bs 23 v → ∀ k, v.ownBlock = some k → ¬ S k) (hz : B0 ≤ W.heap.size) : AqI B0 W hb sb vc T H u h id Bh Bi Bs ws i w2 := by
  obtain ⟨v, hv1, hv2⟩ := q.s
  have z := q.bel.size
  refine ⟨q.lay.upd hu (fun e => by have := hS _ e; omega) (fun k e e2 => by have := hlo.2.1 k e; have := hS _ e2; omega) (fun k e e2 => by have := hlo.2.2 k e; have := hS _ e2; omega), box_of (hu.block _ q.b0.lt h0) q.b0, box_of (hu.block _ q.b1.lt h1) q.b1, ⟨v, box_of (hu.block _ hv1.lt h2) hv1, owns_on hv2 (fun k e => hu.block k (hv2.lt k e).2 (h3 v hv1 k e))⟩, q.bel.trans (hu.below (by omega) hS)⟩
set_option maxRecDepth 100000 in
set_option maxHeartbeats 1000000 in
theorem appendSeq_c (g : HLay W hb sb vc T H u h) (id : Nat) (ws : List Nat) (hrow : H[id]? = some (some (.row ws))) (hl : ws.length ≤ 1048576) (h64 : ∀ x ∈ ws, x < 18446744073709551616) (B0 : Nat) (hz : B0 ≤ W.heap.size) (hlo : hb < B0 ∧ (∀ k, vc.ownBlock = some k → k < B0) ∧ ∀ k, T k → k < B0) (Bh Bi : Nat) (x0 : Boxed W Bh 31 (.pointer (some ⟨hb, 0, none⟩))) (x1 : Boxed W Bi 3 (.int .i64 id)) (hBh : B0 ≤ Bh) (hBi : B0 ≤ Bi) (v0 : Value) (hown : W.ownsRow B0 24 1 v0 0 []) :
    Calls Try.prog 52 #[v0, .func (.func 62) #[] #[.pointer (some ⟨Bh, 0, none⟩), .pointer (some ⟨Bi, 0, none⟩)]] W fun e w' => ∃ v, e = .returned v ∧ Below B0 W w' ∧ w'.ownsRow B0 24 1 v ws.length (ws.map (fun x => .int .u64 (x : Nat))) := by
  obtain ⟨ov, cv, hv0⟩ := slice_of (owns_base hown (b' := 0) (fun _ _ => Nat.zero_le _))
  subst hv0
  refine (callsIn_wide (n := 9)).1 ?_
  refine callsIn_of_wp_marks Try.func52 rfl trivial ?_ rfl
  refine wpIn_wide.2 ?_
  simp only [Try.ntmps52, List.size_toArray, List.length_cons, List.length_nil, Nat.reduceAdd, Nat.reduceSub, Array.replicate_succ, Array.replicate_zero, List.push_toArray, List.append_toArray, List.nil_append, List.cons_append]
  go_wp2
  have bA : Below W.heap.size W (W.alloc (.cells #[.slice ov 0 cv] 23)) := (Below.refl _ W).alloc (Nat.le_refl _) _
  have q0 : AqI B0 W hb sb vc T H u h id Bh Bi W.heap.size ws 0 (W.alloc (.cells #[.slice ov 0 cv] 23)) := ⟨g.below bA, box_of (bA.block _ x0.lt) x0, box_of (bA.block _ x1.lt) x1, ⟨_, Boxed.new _ _ _, by simpa using hown.alloc _⟩, bA.mono hz⟩
  have zA : (W.alloc (.cells #[.slice ov 0 cv] 23)).heap.size = W.heap.size + 1 := World.size_alloc ..
  have ltB := x0.lt
  have ltI := x1.lt
  generalize W.alloc (.cells #[.slice ov 0 cv] 23) = WA at *
  refine words_law (hb := hb) (sb := sb) (vc := vc) (T := T) (u := u) (h := h) (pt := 7) (W0 := WA) (Bh := Bh) (Bi := Bi) (id := id) ws hrow rfl (fun i W' => AqI B0 W hb sb vc T H u h id Bh Bi W.heap.size ws i W' ∧ ∀ v, Boxed W' W.heap.size 23 v → ∀ k, v.ownBlock = some k → k ≠ WA.heap.size ∧ k ≠ WA.heap.size + 1) (fun _ _ => False) ?hL ?hI (fun c W W' h _ => h) ?h0 5 ?assign ?body ?done (fun c W h => h.elim)
  case h0 =>
    refine ⟨q0, fun v hv k e => ?_⟩
    obtain ⟨v', h1, h2⟩ := q0.s
    have e1 : v = v' := by
      unfold Boxed at hv h1
      rw [hv] at h1
      simpa using h1
    subst e1
    have := (h2.lt k e).2
    omega
  case hL =>
    rintro i W' ⟨q, _⟩
    exact ⟨q.lay, q.b0.cell, q.b1.cell⟩
  case hI =>
    rintro i Wa Wb ⟨q, hq⟩ hu
    refine ⟨q.upd hlo hu (fun k e => by omega) (by omega) (by omega) (by omega) (fun v hv k e => (hq v hv k e).2) hz, fun v hv k e => ?_⟩
    have hv' : Boxed Wa W.heap.size 23 v := by
      obtain ⟨v', h1, _⟩ := q.s
      exact (hu.block _ h1.lt (by omega)).symm.trans hv
    exact hq v hv' k e
  case assign =>
    intro L x W' K hK
    gi_wp2_with (simp only [Oper.semAt]; go_simp)
    exact hK
  case done =>
    rintro W' ⟨q, hq⟩ hD
    obtain ⟨v, hv1, hv2⟩ := q.s
    rw [List.take_of_length_le (Nat.le_refl _)] at hv2
    have c2 := hv1.cell
    obtain ⟨o9, c9, e9⟩ := slice_of (owns_base hv2 (b' := 0) (fun _ _ => Nat.zero_le _))
    subst e9
    have Q := hid q
    have HV := hid hv2
    have hkn := hid (hq _ hv1)
    clear q hv1 hv2 hq
    generalize hnn : ws.length = nn at *
    go_wp2
    refine ⟨by simp, .inl ⟨_, _, rfl, run_takeDeferred hD, ?_⟩⟩
    subst hnn
    have hu : Upd (fun k => k = WA.heap.size) W' (W'.putObj WA.heap.size (.deferred none)) := upd_put (S := fun k => k = WA.heap.size) rfl _
    refine ⟨_, results_tmp rfl _ _ _, _, rfl, Q.out.bel.trans (hu.below (by have := Q.out.bel.size; omega) (fun k e => by omega)), ?_⟩
    exact owns_on HV.out (fun k e => hu.block k (HV.out.lt k e).2 (hkn.out k e).1)
  case body =>
    rintro L i hi W' hLe ⟨q, hq⟩ hs hr
    simp only [wAct, List.setIfInBounds_toArray, List.set_cons_succ, List.set_cons_zero]
    obtain ⟨v, hv1, hv2⟩ := q.s
    obtain ⟨o9, c9, e9⟩ := slice_of (owns_base hv2 (b' := 0) (fun _ _ => Nat.zero_le _))
    subst e9
    have hx64 := h64 _ (List.getElem_mem hi)
    have tk : Hid (ws.take (i + 1) = ws.take i ++ [ws[i]]) := hid (List.take_succ_eq_append_getElem hi)
    generalize ws[i] = x at *
    have hB1 : Below W'.heap.size W' (W'.alloc (.cells #[.int .u64 (x : Nat)] 24)) := (Below.refl _ W').alloc (Nat.le_refl _) _
    have z1 : (W'.alloc (.cells #[.int .u64 (x : Nat)] 24)).heap.size = W'.heap.size + 1 := World.size_alloc ..
    obtain ⟨v', w', hrun, ho', hg, hk⟩ := append_one W' 23 (.slice o9 i c9) i _ hv2 x (by omega)
    have hU1 : Upd (fun k => (Value.slice o9 i c9).ownBlock = some k) (W'.alloc (.cells #[.int .u64 (x : Nat)] 24)) w' := (Upd.refl _ _).grown hg (fun k e => .inl e)
    have hU : Upd (fun k => (Value.slice o9 i c9).ownBlock = some k) W' w' := (Upd.of_below hB1).trans' hU1
    have c2 := hv1.cell
    obtain ⟨o8, c8, e8⟩ := slice_of (owns_base ho' (b' := 0) (fun _ _ => Nat.zero_le _))
    subst e8
    have hne : ∀ k, (Value.slice o9 i c9).ownBlock = some k → k ≠ W.heap.size ∧ k ≠ Bh ∧ k ≠ Bi := fun k e => ⟨fun e2 => own_ne (owns_base hv2 (b' := 0) (fun _ _ => Nat.zero_le _)) hv1 (by decide) (by rw [e, e2]), fun e2 => own_ne (owns_base hv2 (b' := 0) (fun _ _ => Nat.zero_le _)) q.b0 (by decide) (by rw [e, e2]), fun e2 => own_ne (owns_base hv2 (b' := 0) (fun _ _ => Nat.zero_le _)) q.b1 (by decide) (by rw [e, e2])⟩
    have bx : Boxed w' W.heap.size 23 (.slice o9 i c9) := box_of (hU.block _ hv1.lt (fun e => (hne _ e).1 rfl)) hv1
    have cw := bx.cell
    have fw := bx.frozen
    gi_wp2_with (first | (with_reducible refine gi_append _ (.tmp 8) (.tmp 10) 23 23 rfl _ _ (by simp [Act.eval]) (by simp [Act.eval]) _ _ hrun ?_) | (simp only [Oper.semAt]; go_simp))
    have hq1 := hq _ hv1
    have hlt := fun k e => hv2.lt k e
    have hz' := q.bel.size
    have z2 := hU1.size
    have hloc : ∀ k, (Value.slice o8 (i + 1) c8).ownBlock = some k → k ≠ W.heap.size ∧ k ≠ WA.heap.size ∧ k ≠ WA.heap.size + 1 ∧ B0 ≤ k := by
      intro k e
      rcases hk k e with e | e
      · exact ⟨(hne k e).1, (hq1 k e).1, (hq1 k e).2, (hlt k e).1⟩
      · exact ⟨by omega, by omega, by omega, by omega⟩
    have hU2 : Upd (fun k => (Value.slice o9 i c9).ownBlock = some k ∨ k = W.heap.size) W' (w'.setCell ⟨W.heap.size, 0, none⟩ (.slice o8 (i + 1) c8)) :=
      (Upd.setCell (S := fun k => (Value.slice o9 i c9).ownBlock = some k ∨ k = W.heap.size) ⟨hU.os, hU.tape, hU.output, hU.size, fun k hk2 hn => hU.block k hk2 (fun e => hn (.inl e))⟩ (p := ⟨W.heap.size, 0, none⟩) (.inl (.inr rfl)) _)
    have bx2 : Boxed (w'.setCell ⟨W.heap.size, 0, none⟩ (.slice o8 (i + 1) c8)) W.heap.size 23 (.slice o8 (i + 1) c8) := heap_set (c := [.slice o9 i c9]) bx 0 (.slice o8 (i + 1) c8)
    refine ⟨⟨hU2.block _ (by omega) ?_, hU2.block _ (by omega) ?_⟩, ⟨q.lay.upd hU2 ?_ ?_ ?_, box_of (hU2.block _ q.b0.lt ?_) q.b0, box_of (hU2.block _ q.b1.lt ?_) q.b1, ⟨_, bx2, ?_⟩, q.bel.trans (hU2.below (by omega) ?_)⟩, ?_⟩
    · rintro (e | e)
      · exact (hq1 _ e).2 (by omega)
      · omega
    · rintro (e | e)
      · exact (hq1 _ e).1 (by omega)
      · omega
    · rintro (e | e)
      · have := (hlt _ e).1; omega
      · omega
    · rintro k e1 (e | e)
      · have := (hlt _ e).1; have := hlo.2.1 k e1; omega
      · have := hlo.2.1 k e1; omega
    · rintro k e1 (e | e)
      · have := (hlt _ e).1; have := hlo.2.2 k e1; omega
      · have := hlo.2.2 k e1; omega
    · rintro (e | e)
      · exact (hne _ e).2.1 rfl
      · omega
    · rintro (e | e)
      · exact (hne _ e).2.2 rfl
      · omega
    · rw [tk.out, List.map_append]
      exact owns_on (owns_base ho' (fun k e => (hloc k e).2.2.2)) (fun k e => Below.heap_setCell _ _ _ _ (hloc k e).1)
    · rintro k (e | e)
      · exact (hlt k e).1
      · omega
    · intro v hv k e
      have e1 : v = .slice o8 (i + 1) c8 := by
        unfold Boxed at hv bx2
        rw [hv] at bx2
        simpa using bx2
      subst e1
      exact ⟨(hloc k e).2.1, (hloc k e).2.2.1⟩
end
end Go.Proofs.Ytaebnnkhjlidiaa.W
/- Package heap: load and Get, of a row. -/
namespace Go.Proofs.Ytaebnnkhjlidiaa.W
open Go.ChangeShapes Go.WideShapes Go.RowKit Go.Shelf
set_option linter.unusedVariables false
section
variable {W W' : World} {hb sb : Nat} {vc : Value} {T : Nat → Prop} {H : List (Option Hc)} {u h : Nat}
theorem make_cap (w : World) (B0 n : Nat) (hn : n ≤ 1048576) (hB : B0 ≤ w.heap.size) : ∃ w', (Instr.makeSlice 23 (.int .i64 0) (.int .i64 (n : Int))).run Try.prog w = .ok (.slice (some ⟨w.heap.size, 0, none⟩) 0 n) w' ∧ w'.ownsRow B0 24 1 (.slice (some ⟨w.heap.size, 0, none⟩) 0 n) 0 [] ∧ Below w.heap.size w w' := by
  obtain ⟨i0, hi, hz0, hz1, hz2⟩ := info_parts infoW
  obtain ⟨w', h1, h2, h3⟩ := run_makeSlice_owned (P := Try.prog) w B0 23 24 i0 (.int .u64 0) 1 underW hi hz0 hz1 .i64 .i64 n (by omega) (by rw [hz2]; omega) (by simp [maxLen]; omega) hB
  exact ⟨w', h1, h2, ((Upd.refl (fun _ => False) w).grown h3 (fun k e => by cases e)).below (Nat.le_refl _) (fun k e => e.elim)⟩
/-- AppendSeq behind words and make, in whatever order they came -/
theorem seq_c (g : HLay W hb sb vc T H u h) (id : Nat) (ws : List Nat) (hrow : H[id]? = some (some (.row ws))) {w1 w2 : World} (b2 : Below W.heap.size W w2) (Bh Bi : Nat) (x0 : Boxed w2 Bh 31 (.pointer (some ⟨hb, 0, none⟩))) (x1 : Boxed w2 Bi 3 (.int .i64 id)) (hBh : W.heap.size ≤ Bh) (hBi : W.heap.size ≤ Bi) (v0 : Value) (hown : w2.ownsRow W.heap.size 24 1 v0 0 []) :
    Calls Try.prog 52 #[v0, .func (.func 62) #[] #[.pointer (some ⟨Bh, 0, none⟩), .pointer (some ⟨Bi, 0, none⟩)]] w2 fun e w' => ∃ o cap, e = .returned (.slice o ws.length cap) ∧ Below W.heap.size W w' ∧ w'.ownsRow W.heap.size 24 1 (.slice o ws.length cap) ws.length (ws.map (fun x => .int .u64 (x : Nat))) := by
  have ok := g.ok id _ hrow
  refine (appendSeq_c (g.below b2) id ws hrow ok.2 ok.1 W.heap.size b2.size ⟨g.hlt, g.clt, g.tlt⟩ Bh Bi x0 x1 hBh hBi v0 hown).mono ?_
  rintro e w' ⟨v, rfl, hB, ho⟩
  obtain ⟨o, c, rfl⟩ := slice_of (owns_base ho (b' := 0) (fun _ _ => Nat.zero_le _))
  exact ⟨o, c, rfl, b2.trans hB, ho⟩
set_option maxRecDepth 100000 in
set_option maxHeartbeats 2000000 in
theorem load_row (g : HLay W hb sb vc T H u h) (id : Nat) (ws : List Nat) (hc : H[id]? = some (some (.row ws))) :
    Calls Try.prog 29 #[.pointer (some ⟨hb, 0, none⟩), .int .i64 id] W fun e w' => ∃ o cap, e = .returned (.agg #[.int .i64 9, .bool false, .int .i64 0, .string ⟨#[]⟩, .slice none 0 0, .slice o ws.length cap, .int .u64 0, .int .i64 0, .int .i64 0]) ∧ Below W.heap.size W w' ∧ w'.ownsRow (W.heap.size + 1) 24 1 (.slice o ws.length cap) ws.length (ws.map (fun x => .int .u64 (x : Nat))) := by
  have hidl : id < H.length := (List.getElem?_eq_some_iff.1 hc).1
  obtain ⟨b, cap, hvc, hcell, _⟩ := g.at hidl
  have c1 := g.cell 1
  simp only [List.getElem?_cons_succ, List.getElem?_cons_zero] at c1
  rw [hvc] at c1
  have k0 := hcell 0 _ hc (by omega)
  have k1 := hcell 1 _ hc (by omega)
  have k2 := hcell 2 _ hc (by omega)
  have k3 := hcell 3 _ hc (by omega)
  have k4 := hcell 4 _ hc (by omega)
  simp only [clO, Hc.cl, Cl.cells, List.getElem?_cons_succ, List.getElem?_cons_zero, Nat.add_zero] at k0 k1 k2 k3 k4
  have j0 : (0 : Int) ≤ id := by omega
  have j1 : (id : Int) < H.length := by omega
  have ho := g.ok id _ hc
  have cs : ∀ w, Calls Try.prog 36 #[.int .i64 9, .bool false] w fun e w' => e = .returned (.int .i64 5) ∧ w' = w := fun w => shape_c 9 false w
  clear hcell
  have hB1 : Below W.heap.size W (W.alloc (.cells #[.int .i64 0, .bool false, .int .i64 0, .string ⟨#[]⟩, .slice none 0 0, .slice none 0 0, .int .u64 0, .int .i64 0, .int .i64 0] 26)) := (Below.refl _ W).alloc (Nat.le_refl _) _
  have hs1 : (W.alloc (.cells #[.int .i64 0, .bool false, .int .i64 0, .string ⟨#[]⟩, .slice none 0 0, .slice none 0 0, .int .u64 0, .int .i64 0, .int .i64 0] 26)).heap.size = W.heap.size + 1 := World.size_alloc ..
  have e1 := World.cell?_alloc_new W #[.int .i64 0, .bool false, .int .i64 0, .string ⟨#[]⟩, .slice none 0 0, .slice none 0 0, .int .u64 0, .int .i64 0, .int .i64 0] 26
  have f1 := World.alloc_heap_new W (.cells #[.int .i64 0, .bool false, .int .i64 0, .string ⟨#[]⟩, .slice none 0 0, .slice none 0 0, .int .u64 0, .int .i64 0, .int .i64 0] 26)
  go_enter Try.func29, Try.ntmps29
  go_upto_region 1 with fail
  have c1' := below_cell hB1 c1
  have k0' := below_cell hB1 k0
  have k1' := below_cell hB1 k1
  have k2' := below_cell hB1 k2
  have k3' := below_cell hB1 k3
  have k4' := below_cell hB1 k4
  generalize hW1 : W.alloc (.cells #[.int .i64 0, .bool false, .int .i64 0, .string ⟨#[]⟩, .slice none 0 0, .slice none 0 0, .int .u64 0, .int .i64 0, .int .i64 0] 26) = W1 at *
  clear c1 k0 k1 k2 k3 k4 hW1
  go_upto_region 2 with fail
  have hBc : Below W1.heap.size W1 (W1.alloc (.cells #[.int .i64 9, .bool false, .int .u64 0, .int .i64 0, .int .i64 0] 76)) := (Below.refl _ W1).alloc (Nat.le_refl _) _
  have fC := World.alloc_heap_new W1 (.cells #[.int .i64 9, .bool false, .int .u64 0, .int .i64 0, .int .i64 0] 76)
  rw [hs1] at fC
  have hsc : (W1.alloc (.cells #[.int .i64 9, .bool false, .int .u64 0, .int .i64 0, .int .i64 0] 76)).heap.size = W.heap.size + 2 := by rw [World.size_alloc, hs1]
  generalize World.alloc W1 _ = Wc at *
  have eC := fun j => cell_of_row Wc (W.heap.size + 1) j _ _ _ fC
  go_upto_region 3 with (go_at_call 49; (with_reducible refine (bare_c 9 false 0 0 0 _).mono ?_); rintro e wb ⟨rfl, hBb⟩)
  have hbz := hBb.size
  have fO := World.alloc_heap_new wb (.cells #[.int .i64 9, .bool false, .int .i64 0, .string ⟨#[]⟩, .slice none 0 0, .slice none 0 0, .int .u64 0, .int .i64 0, .int .i64 0] 26)
  have hBd : Below wb.heap.size wb (wb.alloc (.cells #[.int .i64 9, .bool false, .int .i64 0, .string ⟨#[]⟩, .slice none 0 0, .slice none 0 0, .int .u64 0, .int .i64 0, .int .i64 0] 26)) := (Below.refl _ wb).alloc (Nat.le_refl _) _
  have hB3 : Below W1.heap.size W1 (wb.alloc (.cells #[.int .i64 9, .bool false, .int .i64 0, .string ⟨#[]⟩, .slice none 0 0, .slice none 0 0, .int .u64 0, .int .i64 0, .int .i64 0] 26)) := (hBc.trans (hBb.mono (by omega))).trans (hBd.mono (by omega))
  have fC3 := (hBd.block (W.heap.size + 1) (by omega)).trans ((hBb.block (W.heap.size + 1) (by omega)).trans fC)
  obtain ⟨nb, hnb⟩ : ∃ nb, wb.heap.size = nb := ⟨_, rfl⟩
  rw [hnb] at fO
  rw [hnb]
  have hO2 : W.heap.size + 2 ≤ nb := by omega
  clear hnb hBd hBb hBc fC eC hsc hbz
  generalize World.alloc wb _ = W3 at *
  have eO := fun j => cell_of_row W3 nb j _ _ _ fO
  have eC3 := fun j => cell_of_row W3 (W.heap.size + 1) j _ _ _ fC3
  have hs3 := (Array.getElem?_eq_some_iff.1 fO).1
  have hs2 := hs3
  clear fC3
  have eR3 : ∀ j, W3.cell? ⟨W.heap.size, j, none⟩ = #[.int .i64 0, .bool false, .int .i64 0, .string ⟨#[]⟩, .slice none 0 0, .slice none 0 0, .int .u64 0, .int .i64 0, .int .i64 0][j]? := by
    intro j
    rw [World.cell?_of_block (hB3.block W.heap.size (by omega))]
    exact e1 j
  have hBW : Below W.heap.size W W3 := hB1.trans (hB3.mono hB1.size)
  have g3 := g.below hBW
  have fR : W3.heap[W.heap.size]? = some (.cells #[.int .i64 0, .bool false, .int .i64 0, .string ⟨#[]⟩, .slice none 0 0, .slice none 0 0, .int .u64 0, .int .i64 0, .int .i64 0] 26) := (hB3.block W.heap.size (by omega)).trans f1
  have c0 := g3.cell 0
  simp only [List.getElem?_cons_zero] at c0
  have hlen : (Hc.row ws).bytes.length = 8 * ws.length := row_len ws
  have hl : ws.length ≤ 1048576 := ho.2
  have cb := fun w hB => bytes_c ((g3.below hB : HLay w hb sb vc T H u h)) id _ hc
  rw [hlen] at cb
  have cq := fun (w2 : World) (b2 : Below W3.heap.size W3 w2) => seq_c (w1 := W3) g3 id ws hc b2
  have kp : Hid (∀ w4, Below W3.heap.size W3 w4 → w4.heap[W.heap.size]? = some (.cells #[.int .i64 0, .bool false, .int .i64 0, .string ⟨#[]⟩, .slice none 0 0, .slice none 0 0, .int .u64 0, .int .i64 0, .int .i64 0] 26) ∧ w4.heap[nb]? = some (.cells #[.int .i64 9, .bool false, .int .i64 0, .string ⟨#[]⟩, .slice none 0 0, .slice none 0 0, .int .u64 0, .int .i64 0, .int .i64 0] 26)) := by
    show ∀ w4, _
    intro w4 hB4
    exact ⟨(hB4.block _ (by omega)).trans fR, (hB4.block _ (by omega)).trans fO⟩
  have cw := fun w => words_c w hb id
  have q8 : Int.tdiv ((8 * ws.length : Nat) : Int) 8 = ((ws.length : Nat) : Int) := by rw [Int.tdiv_eq_ediv_of_nonneg (by omega)]; omega
  have bD : Below W3.heap.size W3 W3.drew := ⟨rfl, rfl, rfl, Nat.le_refl _, fun _ _ => rfl⟩
  clear eR3 fR fO e1 c1' k0' k1' k2' k3' k4' f1
  go_upto_region 12 with (go_at_call 36; (with_reducible refine (cs _).mono ?_); rintro e w' ⟨rfl, hw⟩; (have hw' := hw.symm); subst hw'; clear hw)
  have HBW := hid hBW
  have HS3 := hid hs3
  have HL := hid hl
  clear g g3 ho hc hBW hB1 hB3 hs1 hs2 hs3 j0 j1 hlen hl
  generalize hm8 : ((8 * ws.length : Nat) : Int) = m8 at *
  clear hm8
  generalize hnn : ws.length = nn at *
  have wnn : IntKind.i64.wrap (nn : Int) = (nn : Int) := by have := HL.out; rw [IntKind.wrap_i64]; omega
  have fin : Hid (∀ (w5 : World) (o : Option Addr) (cap : Nat), Below W3.heap.size W3 w5 → w5.ownsRow W3.heap.size 24 1 (.slice o nn cap) nn (ws.map (fun x => .int .u64 (x : Nat))) → w5.heap[W.heap.size]? = some (.cells #[.int .i64 0, .bool false, .int .i64 0, .string ⟨#[]⟩, .slice none 0 0, .slice none 0 0, .int .u64 0, .int .i64 0, .int .i64 0] 26) ∧ w5.heap[nb]? = some (.cells #[.int .i64 9, .bool false, .int .i64 0, .string ⟨#[]⟩, .slice none 0 0, .slice none 0 0, .int .u64 0, .int .i64 0, .int .i64 0] 26) ∧ Below W.heap.size W w5 ∧ ∀ q, (Value.slice o nn cap).ownBlock = some q → W.heap.size + 3 ≤ q ∧ nb < q) := by
    show ∀ (w5 : World), _
    intro w5 o cap hB5 hown
    obtain ⟨fR, fO⟩ := kp.out w5 hB5
    exact ⟨fR, fO, HBW.out.trans (hB5.mono HBW.out.size), fun q e => by have := (hown.lt q e).1; have := HS3.out; exact ⟨by omega, by omega⟩⟩
  clear kp
  refine wp_region_held_drew (S := fun _ => True) (by kernel_rfl) trivial ?_
  intro hS
  (refine wpAnyH_take (i := 0) (v := ?_) rfl (by kernel_rfl) (by kernel_rfl) (by kernel_rfl) (fun _ _ _ h => h) (Or.inl ⟨by rfl, ?_⟩) trivial ?_); rotate_left; focus (intro w' hSw; go_simp; (try with_reducible rfl)); (try simp only [Act.put, List.getElem_toArray, List.getElem_cons_zero, List.getElem_cons_succ, List.setIfInBounds_toArray, List.set_cons_zero, List.set_cons_succ])
  (refine wpAnyH_take (i := 1) (v := ?_) rfl (by kernel_rfl) (by kernel_rfl) (by kernel_rfl) (fun _ _ _ h => h) (Or.inl ⟨by rfl, ?_⟩) trivial ?_); rotate_left; focus (intro w' hSw; go_simp; (try with_reducible rfl)); (try simp only [Act.put, List.getElem_toArray, List.getElem_cons_zero, List.getElem_cons_succ, List.setIfInBounds_toArray, List.set_cons_zero, List.set_cons_succ])
  (refine wpAnyH_take (i := 5) (v := ?_) rfl (by kernel_rfl) (by kernel_rfl) (by kernel_rfl) (fun _ _ _ h => h) (Or.inl ⟨by rfl, ?_⟩) trivial ?_); rotate_left; focus (intro w' hSw; go_simp; (try with_reducible rfl)); (try simp only [Act.put, List.getElem_toArray, List.getElem_cons_zero, List.getElem_cons_succ, List.setIfInBounds_toArray, List.set_cons_zero, List.set_cons_succ])
  (refine wpAnyH_take (i := 6) (v := ?_) rfl (by kernel_rfl) (by kernel_rfl) (by kernel_rfl) (fun _ _ _ h => h) (Or.inl ⟨by rfl, ?_⟩) trivial ?_); rotate_left; focus (intro w' hSw; go_simp; (try with_reducible rfl)); (try simp only [Act.put, List.getElem_toArray, List.getElem_cons_zero, List.getElem_cons_succ, List.setIfInBounds_toArray, List.set_cons_zero, List.set_cons_succ])
  have bW3d := bD
  generalize W3.drew = W3d at *
  refine wpAnyH_ready (rs := [2]) (by kernel_rfl) (by simp) ?_
  refine AllReadyH.cons rfl (fun K hK => ?_) AllReadyH.nil
  · go_simp
    refine (cb _ bW3d).mono ?_
    rintro e w' ⟨rfl, hw⟩
    have hw' := hw.symm
    subst hw'
    clear hw
    refine hK.out _ _ trivial (fun _ => ?_)
    clear hK K
    (refine wpAnyH_take (i := 3) (v := ?_) rfl (by kernel_rfl) (by kernel_rfl) (by kernel_rfl) (fun _ _ _ h => h) (Or.inl ⟨by rfl, ?_⟩) trivial ?_); rotate_left; focus (intro w' hSw; go_simp; (try with_reducible rfl)); (try simp only [Act.put, List.getElem_toArray, List.getElem_cons_zero, List.getElem_cons_succ, List.setIfInBounds_toArray, List.set_cons_zero, List.set_cons_succ])
    refine wpAnyH_ready (rs := [4, 7]) (by kernel_rfl) (by simp) ?_
    refine AllReadyH.cons rfl (fun K hK => ?_) (AllReadyH.cons rfl (fun K hK => ?_) AllReadyH.nil)
    · obtain ⟨wm, hmk, hom, bmk⟩ := make_cap W3d W3.heap.size nn HL.out (bW3d.size)
      have bwm := bW3d.trans (bmk.mono bW3d.size)
      go_simp
      refine hK.out _ _ trivial (fun _ => ?_)
      clear hK K hmk
      (try simp only [Act.put, List.getElem_toArray, List.getElem_cons_zero, List.getElem_cons_succ, List.setIfInBounds_toArray, List.set_cons_zero, List.set_cons_succ])
      refine wpAnyH_ready (rs := [7]) (by kernel_rfl) (by simp) ?_
      refine AllReadyH.cons rfl (fun K hK => ?_) AllReadyH.nil
      go_simp
      refine (cw _).mono ?_
      rintro e ww ⟨rfl, hw⟩
      have bw1 : Below wm.heap.size wm ww := by
        rw [hw]
        exact ((Below.refl _ wm).alloc (Nat.le_refl _) _).alloc (by rw [World.size_alloc]; omega) _
      have xh : Boxed ww wm.heap.size 31 (.pointer (some ⟨hb, 0, none⟩)) := by
        rw [hw]
        exact box_of (Below.heap_alloc _ _ _ (by rw [World.size_alloc]; omega)) (Boxed.new wm _ _)
      have xi : Boxed ww (wm.heap.size + 1) 3 (.int .i64 id) := by
        have := Boxed.new (wm.alloc (.cells #[.pointer (some ⟨hb, 0, none⟩)] 31)) 3 (.int .i64 id)
        rw [World.size_alloc] at this
        rw [hw]
        exact this
      clear hw
      have bww := bwm.trans (bw1.mono bwm.size)
      refine hK.out _ _ trivial (fun _ => ?_)
      clear hK K
      (try simp only [Act.put, List.getElem_toArray, List.getElem_cons_zero, List.getElem_cons_succ, List.setIfInBounds_toArray, List.set_cons_zero, List.set_cons_succ])
      refine wpAnyH_ready (rs := [8]) (by kernel_rfl) (by simp) ?_
      refine AllReadyH.cons rfl (fun K hK => ?_) AllReadyH.nil
      go_simp
      refine (cq ww bww _ _ xh xi (by have := bwm.size; omega) (by have := bwm.size; omega) _ (owns_on hom (fun k e => bw1.block k (hom.lt k e).2))).mono ?_
      rintro e w5 ⟨o5, c5, rfl, b5, ho5⟩
      refine hK.out _ _ trivial (fun _ => ?_)
      clear hK K cq
      (try simp only [Act.put, List.getElem_toArray, List.getElem_cons_zero, List.getElem_cons_succ, List.setIfInBounds_toArray, List.set_cons_zero, List.set_cons_succ])
      obtain ⟨fR, fO, hBf, hge⟩ := fin.out w5 o5 c5 b5 ho5
      have eR := fun j => cell_of_row w5 W.heap.size j _ _ _ fR
      have eO := fun j => cell_of_row w5 (nb) j _ _ _ fO
      have zR : ∀ j, w5.frozen? ⟨W.heap.size, j, none⟩ = false := fun j => by simp [World.frozen?, fR]
      have zO : ∀ j, w5.frozen? ⟨nb, j, none⟩ = false := fun j => by simp [World.frozen?, fO]
      have FR := hid fR
      have HBf := hid hBf
      have HO := hid ho5
      have HG := hid hge
      clear fR fO hBf ho5 hge fin b5 bww bwm xh xi bmk bw1 hom bW3d
      (refine wpAnyH_take (i := 9) (v := ?_) rfl (by kernel_rfl) (by kernel_rfl) (by kernel_rfl) (fun _ _ _ h => h) (Or.inl ⟨by rfl, ?_⟩) trivial ?_); rotate_left; focus (intro w' hSw; go_simp; (try with_reducible rfl)); (try simp only [Act.put, List.getElem_toArray, List.getElem_cons_zero, List.getElem_cons_succ, List.setIfInBounds_toArray, List.set_cons_zero, List.set_cons_succ])
      refine wpAnyH_ready (rs := [10]) (by kernel_rfl) (by simp) ?_
      refine AllReadyH.cons rfl (fun K hK => ?_) AllReadyH.nil
      go_simp
      refine hK.out _ _ trivial (fun _ => ?_)
      clear hK K
      (try simp only [Act.put, List.getElem_toArray, List.getElem_cons_zero, List.getElem_cons_succ, List.setIfInBounds_toArray, List.set_cons_zero, List.set_cons_succ])
      refine wpAnyH_done (by kernel_rfl) ?_ _
      go_wp2
      subst hnn
      refine bodyPost_ret (cell_ret rfl _ _ W.heap.size _ _ _ _ _ _ _ _ _ (0, 0) rfl (nine_set ((Below.heap_setCell _ _ _ _ (by show W.heap.size ≠ nb; omega)).trans FR.out) _ _ _ _ _ _ _ _ _)) rfl ?_
      refine ⟨o5, c5, rfl, nine_below (HBf.out.setCell (p := ⟨nb, 5, none⟩) (by show W.heap.size ≤ nb; omega) _) (Nat.le_refl _) _ _ _ _ _ _ _ _ _, ?_⟩
      refine owns_on (owns_base HO.out (fun q e => by have := HG.out q e; omega)) (fun q e => ?_)
      have hq := HG.out q e
      refine (nine_far _ _ _ _ _ _ _ _ _ _ _ q (by omega)).trans (Below.heap_setCell _ _ _ _ ?_)
      show q ≠ nb
      omega
    · go_simp
      refine (cw _).mono ?_
      rintro e ww ⟨rfl, hw⟩
      have bw1 : Below W3d.heap.size W3d ww := by
        rw [hw]
        exact ((Below.refl _ W3d).alloc (Nat.le_refl _) _).alloc (by rw [World.size_alloc]; omega) _
      have xh : Boxed ww W3d.heap.size 31 (.pointer (some ⟨hb, 0, none⟩)) := by
        rw [hw]
        exact box_of (Below.heap_alloc _ _ _ (by rw [World.size_alloc]; omega)) (Boxed.new W3d _ _)
      have xi : Boxed ww (W3d.heap.size + 1) 3 (.int .i64 id) := by
        have := Boxed.new (W3d.alloc (.cells #[.pointer (some ⟨hb, 0, none⟩)] 31)) 3 (.int .i64 id)
        rw [World.size_alloc] at this
        rw [hw]
        exact this
      clear hw
      have bww := bW3d.trans (bw1.mono bW3d.size)
      refine hK.out _ _ trivial (fun _ => ?_)
      clear hK K
      (try simp only [Act.put, List.getElem_toArray, List.getElem_cons_zero, List.getElem_cons_succ, List.setIfInBounds_toArray, List.set_cons_zero, List.set_cons_succ])
      refine wpAnyH_ready (rs := [4]) (by kernel_rfl) (by simp) ?_
      refine AllReadyH.cons rfl (fun K hK => ?_) AllReadyH.nil
      obtain ⟨wm, hmk, hom, bmk⟩ := make_cap ww W3.heap.size nn HL.out (bww.size)
      have bwm := bww.trans (bmk.mono bww.size)
      go_simp
      refine hK.out _ _ trivial (fun _ => ?_)
      clear hK K hmk
      (try simp only [Act.put, List.getElem_toArray, List.getElem_cons_zero, List.getElem_cons_succ, List.setIfInBounds_toArray, List.set_cons_zero, List.set_cons_succ])
      refine wpAnyH_ready (rs := [8]) (by kernel_rfl) (by simp) ?_
      refine AllReadyH.cons rfl (fun K hK => ?_) AllReadyH.nil
      go_simp
      refine (cq wm bwm _ _ (box_of (bmk.block _ xh.lt) xh) (box_of (bmk.block _ xi.lt) xi) (by have := bW3d.size; omega) (by have := bW3d.size; omega) _ hom).mono ?_
      rintro e w5 ⟨o5, c5, rfl, b5, ho5⟩
      refine hK.out _ _ trivial (fun _ => ?_)
      clear hK K cq
      (try simp only [Act.put, List.getElem_toArray, List.getElem_cons_zero, List.getElem_cons_succ, List.setIfInBounds_toArray, List.set_cons_zero, List.set_cons_succ])
      obtain ⟨fR, fO, hBf, hge⟩ := fin.out w5 o5 c5 b5 ho5
      have eR := fun j => cell_of_row w5 W.heap.size j _ _ _ fR
      have eO := fun j => cell_of_row w5 (nb) j _ _ _ fO
      have zR : ∀ j, w5.frozen? ⟨W.heap.size, j, none⟩ = false := fun j => by simp [World.frozen?, fR]
      have zO : ∀ j, w5.frozen? ⟨nb, j, none⟩ = false := fun j => by simp [World.frozen?, fO]
      have FR := hid fR
      have HBf := hid hBf
      have HO := hid ho5
      have HG := hid hge
      clear fR fO hBf ho5 hge fin b5 bwm bww xh xi bmk bw1 hom bW3d
      (refine wpAnyH_take (i := 9) (v := ?_) rfl (by kernel_rfl) (by kernel_rfl) (by kernel_rfl) (fun _ _ _ h => h) (Or.inl ⟨by rfl, ?_⟩) trivial ?_); rotate_left; focus (intro w' hSw; go_simp; (try with_reducible rfl)); (try simp only [Act.put, List.getElem_toArray, List.getElem_cons_zero, List.getElem_cons_succ, List.setIfInBounds_toArray, List.set_cons_zero, List.set_cons_succ])
      refine wpAnyH_ready (rs := [10]) (by kernel_rfl) (by simp) ?_
      refine AllReadyH.cons rfl (fun K hK => ?_) AllReadyH.nil
      go_simp
      refine hK.out _ _ trivial (fun _ => ?_)
      clear hK K
      (try simp only [Act.put, List.getElem_toArray, List.getElem_cons_zero, List.getElem_cons_succ, List.setIfInBounds_toArray, List.set_cons_zero, List.set_cons_succ])
      refine wpAnyH_done (by kernel_rfl) ?_ _
      go_wp2
      subst hnn
      refine bodyPost_ret (cell_ret rfl _ _ W.heap.size _ _ _ _ _ _ _ _ _ (0, 0) rfl (nine_set ((Below.heap_setCell _ _ _ _ (by show W.heap.size ≠ nb; omega)).trans FR.out) _ _ _ _ _ _ _ _ _)) rfl ?_
      refine ⟨o5, c5, rfl, nine_below (HBf.out.setCell (p := ⟨nb, 5, none⟩) (by show W.heap.size ≤ nb; omega) _) (Nat.le_refl _) _ _ _ _ _ _ _ _ _, ?_⟩
      refine owns_on (owns_base HO.out (fun q e => by have := HG.out q e; omega)) (fun q e => ?_)
      have hq := HG.out q e
      refine (nine_far _ _ _ _ _ _ _ _ _ _ _ q (by omega)).trans (Below.heap_setCell _ _ _ _ ?_)
      show q ≠ nb
      omega
theorem get_row (g : HLay W hb sb vc T H u h) (w : Nat) (hw : w < 18446744073709551616) (id : Nat) (hi : hit H w = some id) (ws : List Nat) (hc : H[id]? = some (some (.row ws))) :
    Calls Try.prog 14 #[.pointer (some ⟨hb, 0, none⟩), .int .u64 w] W fun e w' => ∃ o cap, e = .returned (.tuple #[.agg #[.int .i64 9, .bool false, .int .i64 0, .string ⟨#[]⟩, .slice none 0 0, .slice o ws.length cap, .int .u64 0, .int .i64 0, .int .i64 0], .int .i64 0]) ∧ Below W.heap.size W w' ∧ w'.ownsRow W.heap.size 24 1 (.slice o ws.length cap) ws.length (ws.map (fun x => .int .u64 (x : Nat))) := by
  have hB1 : Below W.heap.size W (W.alloc (.cells #[.int .i64 0, .bool false, .int .i64 0, .string ⟨#[]⟩, .slice none 0 0, .slice none 0 0, .int .u64 0, .int .i64 0, .int .i64 0] 26)) := (Below.refl _ W).alloc (Nat.le_refl _) _
  have hs1 : (W.alloc (.cells #[.int .i64 0, .bool false, .int .i64 0, .string ⟨#[]⟩, .slice none 0 0, .slice none 0 0, .int .u64 0, .int .i64 0, .int .i64 0] 26)).heap.size = W.heap.size + 1 := World.size_alloc ..
  have f1 := World.alloc_heap_new W (.cells #[.int .i64 0, .bool false, .int .i64 0, .string ⟨#[]⟩, .slice none 0 0, .slice none 0 0, .int .u64 0, .int .i64 0, .int .i64 0] 26)
  have cf := find_c (g.below hB1) w hw
  rw [hi] at cf
  simp only [Option.getD_some, Option.isSome_some] at cf
  have cl := load_row (g.below hB1) id ws hc

  have kp : Hid (∀ w4, Below (W.alloc (.cells #[.int .i64 0, .bool false, .int .i64 0, .string ⟨#[]⟩, .slice none 0 0, .slice none 0 0, .int .u64 0, .int .i64 0, .int .i64 0] 26)).heap.size (W.alloc (.cells #[.int .i64 0, .bool false, .int .i64 0, .string ⟨#[]⟩, .slice none 0 0, .slice none 0 0, .int .u64 0, .int .i64 0, .int .i64 0] 26)) w4 → w4.heap[W.heap.size]? = some (.cells #[.int .i64 0, .bool false, .int .i64 0, .string ⟨#[]⟩, .slice none 0 0, .slice none 0 0, .int .u64 0, .int .i64 0, .int .i64 0] 26) ∧ Below W.heap.size W w4) := by
    show ∀ w4, _
    intro w4 hB4
    exact ⟨(hB4.block _ (by omega)).trans f1, hB1.trans (hB4.mono hB1.size)⟩
  clear hc
  have S1 := hid hs1
  generalize hnn : ws.length = nn at *
  go_enter Try.func14, Try.ntmps14
  go_upto_region 1 with fail
  generalize W.alloc (.cells #[.int .i64 0, .bool false, .int .i64 0, .string ⟨#[]⟩, .slice none 0 0, .slice none 0 0, .int .u64 0, .int .i64 0, .int .i64 0] 26) = W1 at *
  go_wp2_with (first | (go_at_call 28; (with_reducible refine cf.mono ?_); rintro e w' ⟨rfl, hw⟩; (have hw' := hw.symm); subst hw'; clear hw cf) | (go_at_call 29; (with_reducible refine cl.mono ?_); rintro e w4 ⟨o, cap, rfl, hB4, hown⟩; clear cl; (obtain ⟨fR, hBf⟩ := kp.out w4 hB4); (have HO := hid hown); clear hown; (have eR := fun j => cell_of_row w4 W.heap.size j _ _ _ fR); (have zR := (fun j => by simp [World.frozen?, fR] : ∀ j, w4.frozen? ⟨W.heap.size, j, none⟩ = false)); (have FR := hid fR); clear fR))
  refine bodyPost_ret (cell_ret2 rfl _ _ W.heap.size _ _ _ _ _ _ _ _ _ (0, 0) rfl (nine_set FR.out _ _ _ _ _ _ _ _ _)) rfl ?_
  subst hnn
  refine ⟨o, cap, rfl, nine_below hBf (Nat.le_refl _) _ _ _ _ _ _ _ _ _, ?_⟩
  have HG : ∀ q, (Value.slice o ws.length cap).ownBlock = some q → W.heap.size + 1 ≤ q := fun q e => by have := (HO.out.lt q e).1; have := S1.out; omega
  refine owns_on (owns_base HO.out (fun q e => by have := HG q e; omega)) (fun q e => ?_)
  exact nine_far _ _ _ _ _ _ _ _ _ _ _ q (by have := HG q e; omega)
end
end Go.Proofs.Ytaebnnkhjlidiaa.W
/- Steps of statements over a heap of their own: a view is put, what is reached is left; bytes and words that are made. -/
namespace Go.Proofs.Ytaebnnkhjlidiaa.W
open Go.ChangeShapes Go.WideShapes Go.RowKit Go.Shelf
set_option linter.unusedVariables false
theorem lt_get {W : World} {b : Nat} {o : Obj} (h : W.heap[b]? = some o) : b < W.heap.size := (Array.getElem?_eq_some_iff.1 h).1
theorem wf_i64 {i : Int} (h : (Lit.int .i64 i).wf = true) : -9223372036854775808 ≤ i ∧ i ≤ 9223372036854775807 := by
  simp [Lit.wf] at h
  have e1 : IntKind.i64.min = -9223372036854775808 := by decide
  have e2 : IntKind.i64.max = 9223372036854775807 := by decide
  omega
theorem wf_u64 {i : Int} (h : (Lit.int .u64 i).wf = true) : 0 ≤ i ∧ i ≤ 18446744073709551615 := by
  simp [Lit.wf] at h
  have e1 : IntKind.u64.min = 0 := by decide
  have e2 : IntKind.u64.max = 18446744073709551615 := by decide
  omega
theorem wf_u8 {i : Int} (h : (Lit.int .u8 i).wf = true) : 0 ≤ i ∧ i ≤ 255 := by
  simp [Lit.wf] at h
  have e1 : IntKind.u8.min = 0 := by decide
  have e2 : IntKind.u8.max = 255 := by decide
  omega
theorem view_need (k : Int) (b p n : Nat) : (Hc.view k b p n).need = 1 := by unfold Hc.need; show 1 + (0 + 7) / 8 = 1; rfl
theorem bufn_need (k : Int) (bs : List Nat) : (Hc.buf k bs).need = 1 + (bs.length + 7) / 8 := rfl
section
variable {W0 W W1 W' : World} {hb : Nat} {H : List (Option Hc)} {u : Nat} {K K' : Nat → Prop}
theorem hf_view (q : Hf W0 W1 hb H u K) (k : Int) (hk : elB k > 0) (ba p n : Nat) (hba : ba < 18446744073709551616) (id : Nat) (hi : hit H ba = some id) (k2 : Int) (bs : List Nat) (hc : H[id]? = some (some (.buf k2 bs))) (hp : p ≤ bs.length) (hpm : p % elB k = 0) (hn : n ≤ (bs.length - p) / elB k) (hf : sumH H + 1 ≤ u) (vr : Value) (rs : List Nat) (hr : WordsAt W1 vr rs) :
    Calls Try.prog 12 #[.pointer (some ⟨hb, 0, none⟩), .agg #[.int .i64 k, .bool true, .int .i64 0, .string ⟨#[]⟩, .slice none 0 0, .slice none 0 0, .int .u64 ba, .int .i64 p, .int .i64 n], vr] W1 fun e w' => e = .returned (.tuple #[.int .u64 (hw (lid H) : Nat), .int .i64 0]) ∧ Hf W0 w' hb (putH H (lid H) (some (.view k ba p n))) u K ∧ Upd (Ch W0 K) W1 w' := by
  obtain ⟨h1, S, h2, h3, h4⟩ := q
  exact (put_view h2 (fun k e => (h3 k e).2) k hk ba p n hba id hi k2 bs hc hp hpm hn none none 0 0 vr rs hr).mono (fun e w' hP => Hf.fits h1 h3 h4 (by rw [view_need]; exact hf) hP)
theorem hf_collect (q : Hf W0 W1 hb H u K) (vr : Value) (rs : List Nat) (hr : WordsAt W1 vr rs) (hall : ∀ i c, H[i]? = some (some c) → Rch H rs i) :
    Calls Try.prog 16 #[.pointer (some ⟨hb, 0, none⟩), vr] W1 fun e w' => e = .returned (.tuple #[]) ∧ Hf W0 w' hb H u K ∧ Upd (Ch W0 K) W1 w' := by
  obtain ⟨h1, S, h2, h3, h4⟩ := q
  refine (hcollect_c h2 (fun k e => (h3 k e).2) vr rs hr).mono ?_
  rintro e w' ⟨rfl, hU, g⟩
  rw [zip_all hall] at g
  exact ⟨rfl, Hf.put h1 h3 h4 hU g⟩
theorem reach_all {ws : List Nat} (hall : ∀ i c, H[i]? = some (some c) → Rch H ws i) : reachN H ws = sumH H := by
  have := zip_all hall
  unfold reachN
  rw [← zipK_sum, this]
theorem own_at {B0 gb cap n : Nat} {t : TypeId} {xs : List Value} (h : W.ownsRow B0 t 1 (.slice (some ⟨gb, 0, none⟩) n cap) n xs) (i : Nat) (v : Value) (hi : xs[i]? = some v) : W.cell? ⟨gb, i, none⟩ = some v := by
  have := h.cells (g := gb) rfl i v hi
  have e : ((⟨gb, 0, none⟩ : Addr).add i) = ⟨gb, i, none⟩ := by unfold Addr.add; split <;> simp_all
  rwa [e] at this
/-- bytes that were made, as a row -/
theorem byteRow_own {B0 gb cap n : Nat} {bs : List Nat} (h : W.ownsRow B0 5 1 (.slice (some ⟨gb, 0, none⟩) n cap) n (bs.map byteV)) : ByteRow W (some ⟨gb, 0, none⟩) bs := by
  refine .inr ⟨gb, 0, rfl, fun i hi => ?_⟩
  rw [Nat.zero_add]
  exact own_at h i (byteV bs[i]) (by rw [List.getElem?_map, List.getElem?_eq_getElem hi]; rfl)
theorem made_bytes (w : World) (n : Nat) (hn : n ≤ 8388608) : ∃ w', (Instr.makeSlice 22 (.int .i64 (n : Int)) (.int .i64 (n : Int))).run Try.prog w = .ok (.slice (some ⟨w.heap.size, 0, none⟩) n n) w' ∧ ByteRow w' (some ⟨w.heap.size, 0, none⟩) (List.replicate n 0) ∧ Below w.heap.size w w' ∧ w.heap.size < w'.heap.size := by
  obtain ⟨w', h1, h2, h3⟩ := make_bytes w n hn
  have hU : Upd (fun _ => False) w w' := (Upd.refl (fun _ => False) w).grown h3 (fun k e => by cases e)
  exact ⟨w', h1, byteRow_own h2, hU.below (Nat.le_refl _) (fun k e => e.elim), (h2.lt _ rfl).2⟩
/-- a buffer of noughts that were made -/
theorem hf_blank (q : Hf W0 W hb H u K) (hB : Below W.heap.size W W1) (k : Int) (hk : elB k > 0) (n : Nat) (hl : n ≤ 8388608) (hmod : n % elB k = 0) (gb : Nat) (hg0 : W.heap.size ≤ gb) (hg1 : gb < W1.heap.size) (hv : ByteRow W1 (some ⟨gb, 0, none⟩) (List.replicate n 0)) (hf : sumH H + (1 + (n + 7) / 8) ≤ u) (vr : Value) (rs : List Nat) (hr : WordsAt W1 vr rs) :
    Calls Try.prog 12 #[.pointer (some ⟨hb, 0, none⟩), .agg #[.int .i64 k, .bool false, .int .i64 0, .string ⟨#[]⟩, .slice (some ⟨gb, 0, none⟩) n n, .slice none 0 0, .int .u64 0, .int .i64 0, .int .i64 0], vr] W1 fun e w' => e = .returned (.tuple #[.int .u64 (hw (lid H) : Nat), .int .i64 0]) ∧ Hf W0 w' hb (putH H (lid H) (some (.buf k (List.replicate n 0)))) u K ∧ Upd (Ch W0 K) W w' := by
  have q1 := q.below hB
  have hlen : (List.replicate n 0).length = n := List.length_replicate
  have := hf_buf q1 k hk (List.replicate n 0) (fun x hx => by rw [(List.mem_replicate.1 hx).2]; decide) (by rw [hlen]; exact hl) (by rw [hlen]; exact hmod) (some ⟨gb, 0, none⟩) none n 0 (by rw [hlen]; exact Nat.le_refl _) hv (fun x e => by cases e; exact .inr ⟨hg0, hg1⟩) (by rw [bufn_need, hlen]; exact hf) vr rs hr
  rw [hlen] at this
  refine this.mono ?_
  rintro e w' ⟨rfl, h1, h2⟩
  refine ⟨rfl, h1.sub (fun k e => .inl e), (Upd.of_below hB).trans' (h2.mono ?_)⟩
  rintro x ⟨e1, e2⟩
  exact ⟨fun e => e1 (.inl e), e2⟩
end
end Go.Proofs.Ytaebnnkhjlidiaa.W
/- Cells that refer to none, some of them kept: what is reached, what is left, what fits. -/
namespace Go.Proofs.Ytaebnnkhjlidiaa.W
open Go.ChangeShapes Go.WideShapes Go.RowKit Go.Shelf
set_option linter.unusedVariables false
/-- no cell refers to another one; ids are cells, each once -/
structure Kp (H : List (Option Hc)) (ids : List Nat) : Prop where
  leaf : ∀ (i : Nat) (c : Hc), H[i]? = some (some c) → ∀ w ∈ c.succ, w = 0
  live : ∀ i ∈ ids, ∃ c, H[i]? = some (some c)
  nod : ids.Nodup
  len : H.length ≤ 1000000
/-- what they need -/
def idsum (H : List (Option Hc)) (ids : List Nat) : Nat := (ids.map (fun i => needO ((H[i]?).getD none))).foldr (· + ·) 0
theorem idsum_cons (H : List (Option Hc)) (i : Nat) (ids : List Nat) : idsum H (i :: ids) = needO ((H[i]?).getD none) + idsum H ids := rfl
theorem idsum_snoc (H : List (Option Hc)) (ids : List Nat) (i : Nat) : idsum H (ids ++ [i]) = idsum H ids + needO ((H[i]?).getD none) := by
  induction ids with
  | nil => simp [idsum]
  | cons a r ih => rw [List.cons_append, idsum_cons, idsum_cons, ih]; omega
theorem idsum_same {H H' : List (Option Hc)} {ids : List Nat} (h : ∀ i ∈ ids, H'[i]? = H[i]?) : idsum H' ids = idsum H ids := by
  induction ids with
  | nil => rfl
  | cons a r ih => rw [idsum_cons, idsum_cons, h a (by simp), ih (fun i hi => h i (by simp [hi]))]
theorem bools_false {R : List Bool} {n : Nat} (hl : R.length = n) (h : ∀ i : Nat, ¬ R[i]? = some true) : R = List.replicate n false := by
  apply List.ext_getElem?
  intro i
  by_cases hi : i < n
  · rw [List.getElem?_replicate, if_pos hi]
    have e : R[i]? = some R[i] := List.getElem?_eq_getElem (by omega)
    cases hx : R[i] with
    | true => exact absurd (by rw [e, hx]) (h i)
    | false => rw [e, hx]
  · rw [List.getElem?_eq_none (by omega), List.getElem?_eq_none (by simp; omega)]
theorem needR_ids (H : List (Option Hc)) (ids : List Nat) (hn : ids.Nodup) (R : List Bool) (hl : R.length = H.length) (hR : ∀ i : Nat, R[i]? = some true ↔ i ∈ ids) : needR H R = idsum H ids := by
  induction ids generalizing R with
  | nil =>
    rw [bools_false hl (fun i e => by have := (hR i).1 e; cases this)]
    exact needR_false H _
  | cons a r ih =>
    have hn' := List.nodup_cons.1 hn
    have ha := (hR a).2 (by simp)
    have hal : a < R.length := (List.getElem?_eq_some_iff.1 ha).1
    have e1 : (R.set a false).set a true = R := by
      apply List.ext_getElem?
      intro i
      rw [List.set_set]
      by_cases h : i = a
      · subst h; rw [List.getElem?_set_self hal, ha]
      · rw [List.getElem?_set_ne (fun e => h e.symm)]
    have hs : ∀ i : Nat, (R.set a false)[i]? = some true ↔ i ∈ r := by
      intro i
      by_cases h : i = a
      · subst h
        rw [List.getElem?_set_self hal]
        simp [hn'.1]
      · rw [List.getElem?_set_ne (fun e => h e.symm), hR i]
        simp [h]
    have ih' := ih hn'.2 (R.set a false) (by rw [List.length_set]; exact hl) hs
    have hH : H[a]? = some H[a] := List.getElem?_eq_getElem (by omega)
    have := needR_set H (R.set a false) a H[a] (by rw [List.length_set]; exact hl) hH (List.getElem?_set_self hal)
    rw [e1, ih'] at this
    rw [this, idsum_cons, hH]
    simp only [Option.getD_some]
    omega
section
variable {H : List (Option Hc)} {ids : List Nat} {u : Nat}
theorem Kp.lt (k : Kp H ids) {i : Nat} (hi : i ∈ ids) : i < H.length := by
  obtain ⟨c, hc⟩ := k.live i hi
  exact (List.getElem?_eq_some_iff.1 hc).1
theorem Kp.rch (k : Kp H ids) (ex : List Nat) (hex : ∀ w ∈ ex, w = 0) (i : Nat) : Rch H (ids.map hw ++ ex) i ↔ i ∈ ids := by
  constructor
  · intro h
    induction h with
    | root w i hw' hh =>
      rcases List.mem_append.1 hw' with hw' | hw'
      · obtain ⟨j, hj, rfl⟩ := List.mem_map.1 hw'
        obtain ⟨c, hc⟩ := k.live j hj
        rw [hit_hw (by have := k.lt hj; have := k.len; omega) hc] at hh
        injection hh with hh
        rw [← hh]; exact hj
      · rw [hex w hw', hit_zero] at hh; cases hh
    | step j i w c _ hc hw' hh _ => rw [k.leaf j c hc w hw', hit_zero] at hh; cases hh
  · intro h
    obtain ⟨c, hc⟩ := k.live i h
    exact .root (hw i) i (List.mem_append_left _ (List.mem_map_of_mem h)) (hit_hw (by have := k.lt h; have := k.len; omega) hc)
theorem Kp.need (k : Kp H ids) (ex : List Nat) (hex : ∀ w ∈ ex, w = 0) : needR H (rchB H (ids.map hw ++ ex)) = idsum H ids :=
  needR_ids H ids k.nod _ (rchB_len H _) (fun i => (rchB_get H _ i).trans (k.rch ex hex i))
theorem Kp.reach (k : Kp H ids) : reachN H (ids.map hw) = idsum H ids := by
  have := k.need [] (by simp)
  rw [List.append_nil] at this
  exact this
theorem Kp.le (k : Kp H ids) : idsum H ids ≤ sumH H := by
  rw [← k.reach]; exact needR_le H _
theorem Kp.zip (k : Kp H ids) (ex : List Nat) (hex : ∀ w ∈ ex, w = 0) : Kp (zipK H (rchB H (ids.map hw ++ ex))) ids ∧ (∀ i ∈ ids, (zipK H (rchB H (ids.map hw ++ ex)))[i]? = H[i]?) ∧ sumH (zipK H (rchB H (ids.map hw ++ ex))) = idsum H ids ∧ (zipK H (rchB H (ids.map hw ++ ex))).length = H.length := by
  have hl := zipK_len H _ (rchB_len H (ids.map hw ++ ex))
  have hs : ∀ i ∈ ids, (zipK H (rchB H (ids.map hw ++ ex)))[i]? = H[i]? := by
    intro i hi
    rw [zipK_get H _ (rchB_len H _) i (k.lt hi)]
    have hr := (rchB_get H (ids.map hw ++ ex) i).2 ((k.rch ex hex i).2 hi)
    rw [if_pos (by rw [List.getD_eq_getElem?_getD, hr]; rfl)]
  refine ⟨⟨?_, ?_, k.nod, by rw [hl]; exact k.len⟩, hs, by rw [zipK_sum]; exact k.need ex hex, hl⟩
  · intro i c hc
    have hi : i < H.length := by have := (List.getElem?_eq_some_iff.1 hc).1; omega
    rw [zipK_get H _ (rchB_len H _) i hi] at hc
    split at hc
    · exact k.leaf i c hc
    · cases hc
  · intro i hi
    rw [hs i hi]; exact k.live i hi
theorem Kp.room (k : Kp H ids) (c : Hc) (hc : ∀ w ∈ c.seeds, w = 0) : Kp (roomH H u c (ids.map hw)) ids ∧ (∀ i ∈ ids, (roomH H u c (ids.map hw))[i]? = H[i]?) ∧ (sumH (roomH H u c (ids.map hw)) + c.need ≤ u ↔ idsum H ids + c.need ≤ u) ∧ (roomH H u c (ids.map hw)).length = H.length := by
  unfold roomH
  have hle := k.le
  split
  · exact ⟨k, fun _ _ => rfl, ⟨fun _ => by omega, fun _ => by assumption⟩, rfl⟩
  · obtain ⟨z1, z2, z3, z4⟩ := k.zip c.seeds hc
    exact ⟨z1, z2, by rw [z3], z4⟩
theorem Kp.put (k : Kp H ids) (c : Hc) (hc : ∀ w ∈ c.succ, w = 0) (hl : H.length < 1000000) : Kp (putH H (lid H) (some c)) (ids ++ [lid H]) ∧ Kp (putH H (lid H) (some c)) ids ∧ idsum (putH H (lid H) (some c)) ids = idsum H ids ∧ idsum (putH H (lid H) (some c)) (ids ++ [lid H]) = idsum H ids + c.need ∧ (putH H (lid H) (some c)).length ≤ H.length + 1 := by
  have hni : ∀ i ∈ ids, i ≠ lid H := by
    intro i hi e
    obtain ⟨d, hd⟩ := k.live i hi
    have := lid_free (H := H) (by rw [← e]; exact k.lt hi)
    rw [e, this] at hd
    cases hd
  have hs : ∀ i ∈ ids, (putH H (lid H) (some c))[i]? = H[i]? := fun i hi => putH_ne H _ i (hni i hi)
  have hself := putH_self H (some c)
  have hlen : (putH H (lid H) (some c)).length ≤ H.length + 1 := by rw [putH_len]; split <;> omega
  have leaf' : ∀ (i : Nat) (d : Hc), (putH H (lid H) (some c))[i]? = some (some d) → ∀ w ∈ d.succ, w = 0 := by
    intro i d hd
    by_cases e : i = lid H
    · subst e
      rw [hself] at hd
      injection hd with hd
      injection hd with hd
      subst hd
      exact hc
    · rw [putH_ne H _ i e] at hd
      exact k.leaf i d hd
  have e1 := idsum_same hs
  refine ⟨⟨leaf', ?_, ?_, by omega⟩, ⟨leaf', fun i hi => by rw [hs i hi]; exact k.live i hi, k.nod, by omega⟩, e1, ?_, hlen⟩
  · intro i hi
    rcases List.mem_append.1 hi with hi | hi
    · rw [hs i hi]; exact k.live i hi
    · simp at hi; subst hi; exact ⟨c, hself⟩
  · rw [List.nodup_append]
    refine ⟨k.nod, by simp, ?_⟩
    intro a ha b hb
    simp at hb
    rw [hb]
    exact hni a ha
  · rw [idsum_snoc, e1, hself]; rfl
theorem kp_nil : Kp [] [] := ⟨fun i c h => (by simp at h), fun i h => (by cases h), List.nodup_nil, by simp⟩
end
/-- a row of noughts -/
def nrow (n : Nat) : Hc := .row (List.replicate n 0)
theorem nrow_seeds (n : Nat) : ∀ w ∈ (nrow n).seeds, w = 0 := by
  intro w hw
  unfold nrow Hc.seeds Hc.ws at hw
  rcases List.mem_append.1 hw with h | h
  · exact (List.mem_replicate.1 h).2
  · simp at h; exact h
theorem nrow_succ (n : Nat) : ∀ w ∈ (nrow n).succ, w = 0 := by
  intro w hw
  exact (List.mem_replicate.1 hw).2
theorem nrow_need (n : Nat) : (nrow n).need = 1 + n := by unfold nrow; rw [row_need, List.length_replicate]
end Go.Proofs.Ytaebnnkhjlidiaa.W
