import Derived.Test.YtenpopelbmeemaaGreatBase20
import Derived.Test.YtenpopelbmeemaaGreatBase21
import Derived.BigQuiet
import Derived.Test.YtenpopelbmeemaaGreatBase16
import Derived.Test.YtenpopelbmeemaaGreatBase13
import Derived.OwnWalk
import Derived.Laws.Strings
import Derived.Test.YtenpopelbmeemaaGreatBase12
import Derived.Test.YtenpopelbmeemaaGreatBase0
/- Package heap: right and Put, of a buffer. -/
namespace Go.Proofs.YtenpopelbmeemaaGreat.W
open Go.ChangeShapes Go.WideShapes Go.RowKit Go.Shelf
set_option linter.unusedVariables false
section
variable {W W' : World} {hb sb : Nat} {vc : Value} {T : Nat → Prop} {H : List (Option Hc)} {u h : Nat}
set_option maxHeartbeats 1000000 in
set_option maxRecDepth 100000 in
theorem right_buf (k : Int) (hk : elB k > 0) (ob ow : Option Addr) (bc wc nn : Nat) (hl : nn ≤ 8388608) (hmod : nn % elB k = 0) (hb : Nat) (W : World) : Calls Tryz.prog 45 #[.agg #[.int .i64 k, .bool false, .int .i64 0, .string ⟨#[]⟩, .slice ob nn bc, .slice ow 0 wc, .int .u64 0, .int .i64 0, .int .i64 0], (.func (.func 46) #[.pointer (some ⟨hb, 0, none⟩)] #[])] W fun e w' => e = .returned (.bool true) ∧ Below W.heap.size W w' := by
  have cp : ∀ w, Calls Tryz.prog 78 #[.agg #[.int .i64 k, .bool false, .int .i64 0, .string ⟨#[]⟩, .slice ob nn bc, .slice ow 0 wc, .int .u64 0, .int .i64 0, .int .i64 0]] w fun e w' => e = .returned (.bool true) ∧ Below w.heap.size w w' := fun w => plain_buf k hk ob ow nn bc wc w
  have cs : ∀ w, Calls Tryz.prog 70 #[.int .i64 k, .bool false] w fun e w' => e = .returned (.int .i64 3) ∧ w' = w := fun w => shape_buf k hk w
  have ce : ∀ w, Calls Tryz.prog 79 #[.int .i64 k] w fun e w' => e = .returned (.int .i64 (elB k : Nat)) ∧ w' = w := fun w => elementBytes_c k w
  have hB := (show Below W.heap.size W (W.alloc (.cells #[.int .i64 k, .bool false, .int .i64 0, .string ⟨#[]⟩, .slice ob nn bc, .slice ow 0 wc, .int .u64 0, .int .i64 0, .int .i64 0] 43)) from (Below.refl _ W).alloc (Nat.le_refl _) _)
  have hs1 : (W.alloc (.cells #[.int .i64 k, .bool false, .int .i64 0, .string ⟨#[]⟩, .slice ob nn bc, .slice ow 0 wc, .int .u64 0, .int .i64 0, .int .i64 0] 43)).heap.size = W.heap.size + 1 := World.size_alloc ..
  have l1 : (nn : Int) ≤ 8388608 := by omega
  generalize elB k = ev at *
  have hm2 : (nn : Int) % (ev : Int) = 0 := by omega
  have hm3 : Int.tmod (nn : Int) (ev : Int) = 0 := by rw [Int.tmod_eq_emod_of_nonneg (by omega)]; exact hm2
  have e0 : ¬ ((ev : Nat) : Int) = 0 := by omega
  have kp : Hid (∀ w2, Below (W.alloc (.cells #[.int .i64 k, .bool false, .int .i64 0, .string ⟨#[]⟩, .slice ob nn bc, .slice ow 0 wc, .int .u64 0, .int .i64 0, .int .i64 0] 43)).heap.size (W.alloc (.cells #[.int .i64 k, .bool false, .int .i64 0, .string ⟨#[]⟩, .slice ob nn bc, .slice ow 0 wc, .int .u64 0, .int .i64 0, .int .i64 0] 43)) w2 → (w2.cell? ⟨W.heap.size, 0, none⟩ = some (.int .i64 k) ∧ w2.cell? ⟨W.heap.size, 1, none⟩ = some (.bool false) ∧ w2.cell? ⟨W.heap.size, 4, none⟩ = some (.slice ob nn bc)) ∧ Below W.heap.size W w2) := by
    show ∀ w2, _
    intro w2 hB2
    have e := fun j => (World.cell?_of_block (a := ⟨W.heap.size, j, none⟩) (hB2.block W.heap.size (by omega))).trans (World.cell?_alloc_new W #[.int .i64 k, .bool false, .int .i64 0, .string ⟨#[]⟩, .slice ob nn bc, .slice ow 0 wc, .int .u64 0, .int .i64 0, .int .i64 0] 43 j)
    exact ⟨⟨e 0, e 1, e 4⟩, hB.trans (hB2.mono hB.size)⟩
  clear hs1 hmod hl hk
  go_enter Tryz.func45, Tryz.ntmps45
  go_upto_region 9 with (first | (go_at_call 78; (with_reducible refine (cp _).mono ?_); rintro e w2 ⟨rfl, hB2⟩; clear cp; (obtain ⟨⟨z0, z1, z4⟩, hBf⟩ := kp.out w2 hB2)) | (go_at_call 70; (with_reducible refine (cs _).mono ?_); rintro e w' ⟨rfl, hw⟩; (have hw' := hw.symm); subst hw'; clear hw))
  go_region_with (go_at_call 79; (with_reducible refine (ce _).mono ?_); rintro e w' ⟨rfl, hw⟩; (have hw' := hw.symm); subst hw'; clear hw)
  all_goals (
    simp only [Act.put, List.getElem_toArray, List.getElem_cons_zero, List.getElem_cons_succ, List.setIfInBounds_toArray, List.set_cons_zero, List.set_cons_succ]
    go_wp2
    go_ret
    exact ⟨rfl, ⟨hBf.os, hBf.tape, hBf.output, hBf.size, hBf.block⟩⟩)
theorem put_buf {S : Nat → Prop} (g : HSt W S hb H u) (hS : ∀ k, S k → k < W.heap.size) (k : Int) (hk : elB k > 0) (bs : List Nat) (hb256 : ∀ x ∈ bs, x < 256) (hl : bs.length ≤ 8388608) (hmod : bs.length % elB k = 0) (ob ow : Option Addr) (bc wc : Nat) (hcap : bs.length ≤ bc) (hv : ByteRow W ob bs) (ho : ∀ x, ob = some x → ¬ S x.block ∧ x.block < W.heap.size) (vr : Value) (rs : List Nat) (hr : WordsAt W vr rs) :
    Calls Tryz.prog 23 #[.pointer (some ⟨hb, 0, none⟩), .agg #[.int .i64 k, .bool false, .int .i64 0, .string ⟨#[]⟩, .slice ob bs.length bc, .slice ow 0 wc, .int .u64 0, .int .i64 0, .int .i64 0], vr] W (PutPost W S hb (roomH H u (.buf k bs) rs) u (.buf k bs)) := by
  refine hput_c g hS (.buf k bs) ⟨hk, hb256, hl⟩ 0 ⟨#[]⟩ ob ow bs.length bc 0 wc (by decide) hl (by decide) ?_ (words_nil W ow wc) (show 0 < _ by decide) ?_ ?_ vr rs hr
  · show sizeV k false 0 bs.length 0 = bs.length
    have e3 : shp k false = 3 := by
      unfold shp
      simp [hk]
    unfold sizeV
    rw [e3]; rfl
  · intro w hB
    exact right_buf k hk ob ow bc wc bs.length hl hmod hb w
  · intro sb h W' T' vc' H' id hl' hi hT hU
    have e : (Hc.buf k bs).zero = .buf k (List.replicate bs.length 0) := rfl
    rw [e] at hi
    exact save_buf hl' id k hk bs hb256 hi hl ob ow bc wc hcap (byteRow_upd hv hU (fun x e => (ho x e).1)) (fun x e => ⟨fun e2 => by rcases hT _ e2 with e3 | e3; exact (ho x e).1 e3; have := (ho x e).2; omega, Nat.lt_of_lt_of_le (ho x e).2 hU.size⟩)
end
end Go.Proofs.YtenpopelbmeemaaGreat.W
/- Package heap: right and Put, of a view. -/
namespace Go.Proofs.YtenpopelbmeemaaGreat.W
open Go.ChangeShapes Go.WideShapes Go.RowKit Go.Shelf
set_option linter.unusedVariables false
section
variable {W W' : World} {hb sb : Nat} {vc : Value} {T : Nat → Prop} {H : List (Option Hc)} {u h : Nat}
set_option maxRecDepth 100000 in
set_option maxHeartbeats 1000000 in
theorem rightView_c (g : HLay W hb sb vc T H u h) (k : Int) (hk : elB k > 0) (ob ow : Option Addr) (bc wc ba p n : Nat) (hba : ba < 18446744073709551616) (id : Nat) (hi : hit H ba = some id) (k2 : Int) (bs : List Nat) (hc : H[id]? = some (some (.buf k2 bs))) (hp : p ≤ bs.length) (hpm : p % elB k = 0) (hn : n ≤ (bs.length - p) / elB k) : Calls Tryz.prog 80 #[.agg #[.int .i64 k, .bool true, .int .i64 0, .string ⟨#[]⟩, .slice ob 0 bc, .slice ow 0 wc, .int .u64 ba, .int .i64 p, .int .i64 n], (.func (.func 46) #[.pointer (some ⟨hb, 0, none⟩)] #[])] W fun e w' => e = .returned (.bool true) ∧ Below W.heap.size W w' := by
  have hB1 : Below W.heap.size W (W.alloc (.cells #[.int .i64 k, .bool true, .int .i64 0, .string ⟨#[]⟩, .slice ob 0 bc, .slice ow 0 wc, .int .u64 ba, .int .i64 p, .int .i64 n] 43)) := (Below.refl _ W).alloc (Nat.le_refl _) _
  have e1 := World.cell?_alloc_new W #[.int .i64 k, .bool true, .int .i64 0, .string ⟨#[]⟩, .slice ob 0 bc, .slice ow 0 wc, .int .u64 ba, .int .i64 p, .int .i64 n] 43
  have hs1 : ((W.alloc (.cells #[.int .i64 k, .bool true, .int .i64 0, .string ⟨#[]⟩, .slice ob 0 bc, .slice ow 0 wc, .int .u64 ba, .int .i64 p, .int .i64 n] 43))).heap.size = W.heap.size + 1 := World.size_alloc ..
  have ga := g.below hB1
  have ok := g.ok id _ hc
  have hk2 : elB k2 > 0 := ok.1
  have hl8 : bs.length ≤ 8388608 := ok.2.2
  have e3 : shp k2 false = 3 := by
    unfold shp
    simp [hk2]
  have cf : Calls Tryz.prog 46 #[.pointer (some ⟨hb, 0, none⟩), .int .u64 ba] (W.alloc (.cells #[.int .i64 k, .bool true, .int .i64 0, .string ⟨#[]⟩, .slice ob 0 bc, .slice ow 0 wc, .int .u64 ba, .int .i64 p, .int .i64 n] 43)) fun e w' => e = .returned (.tuple #[.int .i64 3, .int .i64 bs.length, .bool true]) ∧ Below ((W.alloc (.cells #[.int .i64 k, .bool true, .int .i64 0, .string ⟨#[]⟩, .slice ob 0 bc, .slice ow 0 wc, .int .u64 ba, .int .i64 p, .int .i64 n] 43))).heap.size (W.alloc (.cells #[.int .i64 k, .bool true, .int .i64 0, .string ⟨#[]⟩, .slice ob 0 bc, .slice ow 0 wc, .int .u64 ba, .int .i64 p, .int .i64 n] 43)) w' := by
    refine (among_c ga ba hba).mono ?_
    rintro e w' ⟨⟨f, n, rfl, hx⟩, hB⟩
    obtain ⟨rfl, rfl⟩ := hx id _ hi hc
    rw [hi]
    refine ⟨?_, hB⟩
    show Ending.returned (.tuple #[.int .i64 (shp k2 false), .int .i64 bs.length, .bool true]) = _
    rw [e3]
  have ce : ∀ w, Calls Tryz.prog 79 #[.int .i64 k] w fun e w' => e = .returned (.int .i64 (elB k : Nat)) ∧ w' = w := fun w => elementBytes_c k w
  have kp : Hid (∀ w2, Below ((W.alloc (.cells #[.int .i64 k, .bool true, .int .i64 0, .string ⟨#[]⟩, .slice ob 0 bc, .slice ow 0 wc, .int .u64 ba, .int .i64 p, .int .i64 n] 43))).heap.size (W.alloc (.cells #[.int .i64 k, .bool true, .int .i64 0, .string ⟨#[]⟩, .slice ob 0 bc, .slice ow 0 wc, .int .u64 ba, .int .i64 p, .int .i64 n] 43)) w2 → (∀ j, w2.cell? ⟨W.heap.size, j, none⟩ = #[.int .i64 k, .bool true, .int .i64 0, .string ⟨#[]⟩, .slice ob 0 bc, .slice ow 0 wc, .int .u64 ba, .int .i64 p, .int .i64 n][j]?) ∧ Below W.heap.size W w2) := by
    show ∀ w2, _
    intro w2 hB2
    exact ⟨fun j => (World.cell?_of_block (a := ⟨W.heap.size, j, none⟩) (hB2.block W.heap.size (by omega))).trans (e1 j), hB1.trans (hB2.mono hB1.size)⟩
  clear ok hc g ga hB1 e1 hs1
  generalize hev : elB k = ev at *
  generalize hnn : bs.length = nn at *
  have e0 : ¬ ((ev : Nat) : Int) = 0 := by omega
  have p0 : ¬ (p : Int) < 0 := by omega
  have p1 : ¬ (p : Int) > nn := by omega
  have p2 : Int.tmod (p : Int) (ev : Int) = 0 := by rw [Int.tmod_eq_emod_of_nonneg (by omega)]; omega
  have p3 : IntKind.i64.wrap ((nn : Int) - p) = ((nn - p : Nat) : Int) := by rw [IntKind.wrap_i64]; omega
  have p4 : Int.tdiv ((nn - p : Nat) : Int) (ev : Int) = (((nn - p) / ev : Nat) : Int) := by rw [Int.tdiv_eq_ediv_of_nonneg (by omega)]; omega
  have n0 : (n : Int) ≥ 0 := by omega
  have n1 : (n : Int) ≤ (((nn - p) / ev : Nat) : Int) := by omega
  have hQ : (nn - p) / ev ≤ 8388608 := by have := Nat.div_le_self (nn - p) ev; omega
  have wQ : wrap64 (((nn - p) / ev : Nat) : Int) = (((nn - p) / ev : Nat) : Int) := by unfold wrap64; omega
  generalize (nn - p) / ev = Q at *
  generalize nn - p = D at *
  clear hp hpm hn hk hk2 hev hnn hi e3
  go_enter Tryz.func80, Tryz.ntmps80
  go_upto_region 7 with (first | (go_at_call 46; (with_reducible refine cf.mono ?_); rintro e w2 ⟨rfl, hB2⟩; clear cf; (obtain ⟨z, hBf⟩ := kp.out w2 hB2); (have HBf := hid hBf); clear hBf hB2 kp) | (go_at_call 79; (with_reducible refine (ce _).mono ?_); rintro e w' ⟨rfl, hw⟩; (have hw' := hw.symm); subst hw'; clear hw))
  go_quiet (fail)
  go_wp2
  go_ret
  exact ⟨rfl, ⟨HBf.out.os, HBf.out.tape, HBf.out.output, HBf.out.size, HBf.out.block⟩⟩
set_option maxRecDepth 100000 in
theorem right_view (g : HLay W hb sb vc T H u h) (k : Int) (hk : elB k > 0) (ob ow : Option Addr) (bc wc ba p n : Nat) (hba : ba < 18446744073709551616) (id : Nat) (hi : hit H ba = some id) (k2 : Int) (bs : List Nat) (hc : H[id]? = some (some (.buf k2 bs))) (hp : p ≤ bs.length) (hpm : p % elB k = 0) (hn : n ≤ (bs.length - p) / elB k) : Calls Tryz.prog 45 #[.agg #[.int .i64 k, .bool true, .int .i64 0, .string ⟨#[]⟩, .slice ob 0 bc, .slice ow 0 wc, .int .u64 ba, .int .i64 p, .int .i64 n], (.func (.func 46) #[.pointer (some ⟨hb, 0, none⟩)] #[])] W fun e w' => e = .returned (.bool true) ∧ Below W.heap.size W w' := by
  have cp : ∀ w, Calls Tryz.prog 78 #[.agg #[.int .i64 k, .bool true, .int .i64 0, .string ⟨#[]⟩, .slice ob 0 bc, .slice ow 0 wc, .int .u64 ba, .int .i64 p, .int .i64 n]] w fun e w' => e = .returned (.bool true) ∧ Below w.heap.size w w' := fun w => plain_view k hk ob ow bc wc ba p n w
  have cs : ∀ w, Calls Tryz.prog 70 #[.int .i64 k, .bool true] w fun e w' => e = .returned (.int .i64 4) ∧ w' = w := fun w => shape_view k hk w
  have hB := (show Below W.heap.size W (W.alloc (.cells #[.int .i64 k, .bool true, .int .i64 0, .string ⟨#[]⟩, .slice ob 0 bc, .slice ow 0 wc, .int .u64 ba, .int .i64 p, .int .i64 n] 43)) from (Below.refl _ W).alloc (Nat.le_refl _) _)
  have hs1 : ((W.alloc (.cells #[.int .i64 k, .bool true, .int .i64 0, .string ⟨#[]⟩, .slice ob 0 bc, .slice ow 0 wc, .int .u64 ba, .int .i64 p, .int .i64 n] 43))).heap.size = W.heap.size + 1 := World.size_alloc ..
  have cv : ∀ w, Below W.heap.size W w → Calls Tryz.prog 80 #[.agg #[.int .i64 k, .bool true, .int .i64 0, .string ⟨#[]⟩, .slice ob 0 bc, .slice ow 0 wc, .int .u64 ba, .int .i64 p, .int .i64 n], (.func (.func 46) #[.pointer (some ⟨hb, 0, none⟩)] #[])] w fun e w' => e = .returned (.bool true) ∧ Below w.heap.size w w' := fun w hb' => rightView_c (g.below hb') k hk ob ow bc wc ba p n hba id hi k2 bs hc hp hpm hn
  have kp : Hid (∀ w2, Below ((W.alloc (.cells #[.int .i64 k, .bool true, .int .i64 0, .string ⟨#[]⟩, .slice ob 0 bc, .slice ow 0 wc, .int .u64 ba, .int .i64 p, .int .i64 n] 43))).heap.size (W.alloc (.cells #[.int .i64 k, .bool true, .int .i64 0, .string ⟨#[]⟩, .slice ob 0 bc, .slice ow 0 wc, .int .u64 ba, .int .i64 p, .int .i64 n] 43)) w2 → (∀ j, w2.cell? ⟨W.heap.size, j, none⟩ = #[.int .i64 k, .bool true, .int .i64 0, .string ⟨#[]⟩, .slice ob 0 bc, .slice ow 0 wc, .int .u64 ba, .int .i64 p, .int .i64 n][j]?) ∧ Below W.heap.size W w2) := by
    show ∀ w2, _
    intro w2 hB2
    exact ⟨fun j => (World.cell?_of_block (a := ⟨W.heap.size, j, none⟩) (hB2.block W.heap.size (by omega))).trans (World.cell?_alloc_new W #[.int .i64 k, .bool true, .int .i64 0, .string ⟨#[]⟩, .slice ob 0 bc, .slice ow 0 wc, .int .u64 ba, .int .i64 p, .int .i64 n] 43 j), hB.trans (hB2.mono hB.size)⟩
  clear hs1 hk hc hp hpm hn hi g hB
  go_enter Tryz.func45, Tryz.ntmps45
  go_wp2_with (first | (go_at_call 78; (with_reducible refine (cp _).mono ?_); rintro e w2 ⟨rfl, hB2⟩; clear cp; (obtain ⟨z, hBf⟩ := kp.out w2 hB2); (have HBf := hid hBf); clear hBf hB2) | (go_at_call 70; (with_reducible refine (cs _).mono ?_); rintro e w' ⟨rfl, hw⟩; (have hw' := hw.symm); subst hw'; clear hw) | (go_at_call 80; (with_reducible refine (cv _ HBf.out).mono ?_); rintro e w3 ⟨rfl, hB3⟩; clear cv))
  go_ret
  exact ⟨rfl, HBf.out.trans (hB3.mono HBf.out.size)⟩
theorem put_view {S : Nat → Prop} (g : HSt W S hb H u) (hS : ∀ k, S k → k < W.heap.size) (k : Int) (hk : elB k > 0) (ba p n : Nat) (hba : ba < 18446744073709551616) (id : Nat) (hi : hit H ba = some id) (k2 : Int) (bs : List Nat) (hc : H[id]? = some (some (.buf k2 bs))) (hp : p ≤ bs.length) (hpm : p % elB k = 0) (hn : n ≤ (bs.length - p) / elB k) (ob ow : Option Addr) (bc wc : Nat) (vr : Value) (rs : List Nat) (hr : WordsAt W vr rs) :
    Calls Tryz.prog 23 #[.pointer (some ⟨hb, 0, none⟩), .agg #[.int .i64 k, .bool true, .int .i64 0, .string ⟨#[]⟩, .slice ob 0 bc, .slice ow 0 wc, .int .u64 ba, .int .i64 p, .int .i64 n], vr] W (PutPost W S hb (roomH H u (.view k ba p n) rs) u (.view k ba p n)) := by
  obtain ⟨sb0, vc0, T0, g1⟩ := g.lay
  have ok := g1.ok id _ hc
  have hl8 : bs.length ≤ 8388608 := ok.2.2
  have hn8 : n ≤ 8388608 := by
    have := Nat.div_le_self (bs.length - p) (elB k)
    omega
  refine hput_c g hS (.view k ba p n) ⟨hk, hba, by omega, hn8⟩ 0 ⟨#[]⟩ ob ow 0 bc 0 wc (by decide) (by decide) (by decide) ?_ (words_nil W ow wc) hba ?_ ?_ vr rs hr
  · show sizeV k true 0 0 0 = 0
    have e4 : shp k true = 4 := by
      unfold shp
      simp [hk]
    unfold sizeV
    rw [e4]; rfl
  · intro w hB
    exact right_view (g1.below hB) k hk ob ow bc wc ba p n hba id hi k2 bs hc hp hpm hn
  · intro sb h W' T' vc' H' id' hl' hi' hT hU
    have e : (Hc.view k ba p n).zero = .view k ba p n := rfl
    rw [e] at hi'
    refine (save_view hb id' k hk ob ow bc wc ba p n W').mono ?_
    rintro e w' ⟨rfl, hB⟩
    have es : H'.set id' (some (.view k ba p n)) = H' := by
      apply List.ext_getElem?
      intro i
      by_cases c : i = id'
      · subst c; rw [List.getElem?_set_self (List.getElem?_eq_some_iff.1 hi').1, hi']
      · rw [List.getElem?_set_ne (Ne.symm c)]
    rw [es]
    exact ⟨rfl, Upd.of_below hB, hl'.below hB⟩
end
end Go.Proofs.YtenpopelbmeemaaGreat.W
/- Package heap: where bytes stand (place); Read, Write, of buffers and views; Set. -/
namespace Go.Proofs.YtenpopelbmeemaaGreat.W
open Go.ChangeShapes Go.WideShapes Go.RowKit Go.Shelf
set_option linter.unusedVariables false
section
variable {W W' : World} {hb sb : Nat} {vc : Value} {T : Nat → Prop} {H : List (Option Hc)} {u h : Nat}
set_option maxRecDepth 100000 in
set_option maxHeartbeats 1000000 in
theorem place_buf (g : HLay W hb sb vc T H u h) (w : Nat) (hw : w < 18446744073709551616) (id : Nat) (hi : hit H w = some id) (k : Int) (bs : List Nat) (hc : H[id]? = some (some (.buf k bs))) (wd : Nat) (hwd : wd = 1 ∨ wd = 2 ∨ wd = 4 ∨ wd = 8) (off : Int) (ho0 : -9223372036854775808 ≤ off) (ho1 : off ≤ 9223372036854775807) :
    Calls Tryz.prog 149 #[.pointer (some ⟨hb, 0, none⟩), .int .u64 w, .int .i64 off, .int .i64 wd] W fun e w' => e = .returned (if 0 ≤ off ∧ off + wd ≤ bs.length then .tuple #[.int .i64 id, .int .i64 off, .int .i64 0] else .tuple #[.int .i64 0, .int .i64 0, .int .i64 31]) ∧ Below W.heap.size W w' := by
  have hidl : id < H.length := (List.getElem?_eq_some_iff.1 hc).1
  obtain ⟨b, cap, hvc, hcell, _⟩ := g.at hidl
  have c1 := g.cell 1
  simp only [List.getElem?_cons_succ, List.getElem?_cons_zero] at c1
  rw [hvc] at c1
  have k0 := hcell 0 _ hc (by omega)
  have k1 := hcell 1 _ hc (by omega)
  have k2 := hcell 2 _ hc (by omega)
  have k3 := hcell 3 _ hc (by omega)
  have k4 := hcell 4 _ hc (by omega)
  simp only [clO, Hc.cl, Cl.cells, List.getElem?_cons_succ, List.getElem?_cons_zero, Nat.add_zero] at k0 k1 k2 k3 k4
  have j0 : (0 : Int) ≤ id := by omega
  have j1 : (id : Int) < H.length := by omega
  have ok := g.ok id _ hc
  have hk : elB k > 0 := ok.1
  have hl8 : bs.length ≤ 8388608 := ok.2.2
  clear hcell
  have hB1 : Below W.heap.size W (W.alloc (.cells #[.int .i64 k, .bool false, .int .u64 0, .int .i64 0, .int .i64 0] 116)) := (Below.refl _ W).alloc (Nat.le_refl _) _
  have cf := find_c g w hw
  rw [hi] at cf
  simp only [Option.getD_some, Option.isSome_some] at cf
  have ce : ∀ w, Calls Tryz.prog 79 #[.int .i64 k] w fun e w' => e = .returned (.int .i64 (elB k : Nat)) ∧ w' = w := fun w => elementBytes_c k w
  have cb : Calls Tryz.prog 74 #[.pointer (some ⟨hb, 0, none⟩), .int .i64 id] (W.alloc (.cells #[.int .i64 k, .bool false, .int .u64 0, .int .i64 0, .int .i64 0] 116)) fun e w' => e = .returned (.int .i64 bs.length) ∧ w' = (W.alloc (.cells #[.int .i64 k, .bool false, .int .u64 0, .int .i64 0, .int .i64 0] 116)) := bytes_c (g.below hB1) id _ hc
  have e1 := World.cell?_alloc_new W #[.int .i64 k, .bool false, .int .u64 0, .int .i64 0, .int .i64 0] 116
  have e0 : ¬ ((elB k : Nat) : Int) = 0 := by omega
  have hout : Hid (∀ m : Nat, Below W.heap.size W ((W.alloc (.cells #[.int .i64 k, .bool false, .int .u64 0, .int .i64 0, .int .i64 0] 116)).drewN m)) := fun m => ⟨hB1.os, hB1.tape, hB1.output, hB1.size, hB1.block⟩
  generalize ((elB k : Nat) : Int) = E at *
  generalize hnn : bs.length = nn at *
  have hsub : IntKind.i64.wrap ((nn : Int) - wd) = (nn : Int) - wd := by rw [IntKind.wrap_i64]; omega
  have hz : IntKind.i64.wrap (0 + off) = off := by rw [IntKind.wrap_i64]; omega
  have hd : (wd : Int) = 1 ∨ (wd : Int) = 2 ∨ (wd : Int) = 4 ∨ (wd : Int) = 8 := by omega
  clear hwd
  generalize ((wd : Nat) : Int) = d at *
  by_cases hlo : off < 0
  · rw [if_neg (by omega)]
    clear hz
    rcases hd with rfl | rfl | rfl | rfl
    all_goals (
      clear g ok hc hB1
      go_enter Tryz.func149, Tryz.ntmps149
      go_wp2_with (first | (go_at_call 40; (with_reducible refine cf.mono ?_); rintro e w' ⟨rfl, hw⟩; (have hw' := hw.symm); subst hw'; clear hw) | (go_at_call 79; (with_reducible refine (ce _).mono ?_); rintro e w' ⟨rfl, hw⟩; (have hw' := hw.symm); subst hw'; clear hw) | (go_at_call 74; (with_reducible refine cb.mono ?_); rintro e w' ⟨rfl, hw⟩; (have hw' := hw.symm); subst hw'; clear hw))
      go_ret3
      exact ⟨rfl, hout.out 0⟩)
  · by_cases hhi : off + d ≤ nn
    · rw [if_pos ⟨by omega, hhi⟩]
      have g1 : ¬ off > (nn : Int) - d := by omega
      clear hhi
      rcases hd with rfl | rfl | rfl | rfl
      all_goals (
        clear g ok hc hB1
        go_enter Tryz.func149, Tryz.ntmps149
        go_upto_region 13 with (first | (go_at_call 40; (with_reducible refine cf.mono ?_); rintro e w' ⟨rfl, hw⟩; (have hw' := hw.symm); subst hw'; clear hw) | (go_at_call 79; (with_reducible refine (ce _).mono ?_); rintro e w' ⟨rfl, hw⟩; (have hw' := hw.symm); subst hw'; clear hw) | (go_at_call 74; (with_reducible refine cb.mono ?_); rintro e w' ⟨rfl, hw⟩; (have hw' := hw.symm); subst hw'; clear hw))
        go_quiet (fail)
        go_wp2
        go_ret3
        exact ⟨rfl, hout.out _⟩)
    · rw [if_neg (by omega)]
      have g1 : off > (nn : Int) - d := by omega
      clear hhi hz
      rcases hd with rfl | rfl | rfl | rfl
      all_goals (
        clear g ok hc hB1
        go_enter Tryz.func149, Tryz.ntmps149
        go_wp2_with (first | (go_at_call 40; (with_reducible refine cf.mono ?_); rintro e w' ⟨rfl, hw⟩; (have hw' := hw.symm); subst hw'; clear hw) | (go_at_call 79; (with_reducible refine (ce _).mono ?_); rintro e w' ⟨rfl, hw⟩; (have hw' := hw.symm); subst hw'; clear hw) | (go_at_call 74; (with_reducible refine cb.mono ?_); rintro e w' ⟨rfl, hw⟩; (have hw' := hw.symm); subst hw'; clear hw))
        go_ret3
        exact ⟨rfl, hout.out 0⟩)
end
end Go.Proofs.YtenpopelbmeemaaGreat.W
/- casketlaw7's plain; plain values. -/
namespace Go.Proofs.YtenpopelbmeemaaGreat.W
open Go.ChangeShapes Go.WideShapes Go.RowKit Go.Shelf
set_option linter.unusedVariables false
/-- a right value that is no thing -/
def PV (kd i bi re : Int) (t : ByteArray) : Prop := (kd = 0 ∧ i = 0 ∧ bi = 0 ∧ t = ⟨#[]⟩ ∧ re = 0) ∨ (kd = 1 ∧ (i = 0 ∨ i = 1) ∧ bi = 0 ∧ t = ⟨#[]⟩ ∧ re = 0) ∨ (kd = 2 ∧ bi = 0 ∧ t = ⟨#[]⟩ ∧ re = 0) ∨ (kd = 3 ∧ i = 0 ∧ t = ⟨#[]⟩ ∧ re = 0) ∨ (kd = 4 ∧ i = 0 ∧ bi = 0 ∧ re = 0)
end Go.Proofs.YtenpopelbmeemaaGreat.W
/- Contracts of package word's FromText and of the statements' awake. -/
namespace Go.Proofs.YtenpopelbmeemaaGreat.W
open Go.ChangeShapes Go.WideShapes Go.RowKit

theorem pow8 (k : Nat) : 2 ^ (8 * k) = 256 ^ k := by rw [Nat.pow_mul]
theorem pow_lt5 (k : Nat) (h : k ≤ 5) : 256 ^ k ≤ 1099511627776 := by
  have := Nat.pow_le_pow_right (n := 256) (by decide) h
  have e : 256 ^ 5 = 1099511627776 := by decide
  omega
theorem enc_lt (s : ByteArray) (hs : s.size ≤ 5) : (s.size : Int) * 1099511627776 + (encN s.data.toList : Int) < 281474976710656 := by
  have he := encN_lt s.data.toList
  have hl : s.data.toList.length = s.size := by simp
  rw [hl] at he
  have := pow_lt5 s.size hs
  omega
end Go.Proofs.YtenpopelbmeemaaGreat.W
/- What each class says of a pattern, as numbers. -/
namespace Go.Proofs.YtenpopelbmeemaaGreat.W

theorem cls_is5 (n : Int) (h : cls n = 5) : 18445055223849287680 ≤ n ∧ n < 18445336698825998336 ∧ txtOk (n % 281474976710656) = true := by
  unfold cls at h
  (repeat' split at h) <;> first | (exfalso; revert h; decide) | exact ⟨by omega, by omega, by assumption⟩
end Go.Proofs.YtenpopelbmeemaaGreat.W
/- Plain facts on what is put into a word and comes out of it: no Go in sight. -/
namespace Go.Proofs.YtenpopelbmeemaaGreat.W

theorem cls_mk2 (n : Int) (a : 18444773748872577024 ≤ n) (b : n < 18445055223849287680) : cls n = 2 := cls_t1 n (by omega) (by omega) (by omega)
theorem intW_bd (i : Int) (h : smallB i = true) : 18444773748872577024 ≤ intW i ∧ intW i < 18445055223849287680 := by
  simp only [intW, h, if_true]; omega
theorem intW_cls (i : Int) (h : smallB i = true) : cls (intW i) = 2 := by
  have := intW_bd i h
  exact cls_mk2 _ this.1 this.2
theorem toInt_intW (i : Int) (h : smallB i = true) : toInt (intW i) = i := by
  have hc := intW_cls i h
  simp only [toInt, hc, if_true]
  have hs := h
  simp only [smallB, decide_eq_true_eq] at hs
  simp only [intW, h, if_true]
  split <;> omega
theorem fltW_bd (n : Int) (h0 : 0 ≤ n) (h1 : n < 18446744073709551616) : 0 ≤ fltW n ∧ fltW n < 18446744073709551616 := by
  unfold fltW; split <;> omega
theorem fltW_cls (n : Int) : cls (fltW n) = 1 := by
  unfold fltW
  split
  · exact cls_canon
  · rename_i h
    exact cls_dbl n (by simpa using h)
theorem txtW_rest (s : ByteArray) (h : s.size ≤ 5) : txtW s % 281474976710656 / 1099511627776 = s.size ∧ txtW s % 1099511627776 = encN s.data.toList := by
  have he := encN_lt s.data.toList
  have hl : s.data.toList.length = s.size := by simp
  rw [hl] at he
  have := pow_lt5 s.size h
  simp only [txtW, if_pos h]
  omega
theorem txtW_cls (s : ByteArray) (h : s.size ≤ 5) : cls (txtW s) = 5 := by
  have he := encN_lt s.data.toList
  have hl : s.data.toList.length = s.size := by simp
  rw [hl] at he
  have hp := pow_lt5 s.size h
  obtain ⟨r1, r2⟩ := txtW_rest s h
  have hb : 18445055223849287680 ≤ txtW s ∧ txtW s < 18445336698825998336 := by
    have := enc_lt s h
    simp only [txtW, if_pos h]; omega
  rw [cls_t2 (txtW s) (by omega) (by omega) (by omega)]
  unfold textCls
  rw [if_pos]
  simp only [txtOk, decide_eq_true_eq]
  have e : txtW s % 281474976710656 % 1099511627776 = txtW s % 1099511627776 := by omega
  rw [r1, e, r2]
  refine ⟨by omega, ?_⟩
  have e8 : (8 * (s.size : Int)).toNat = 8 * s.size := by omega
  rw [e8]
  have e2 : (2 : Int) ^ (8 * s.size) = ((256 ^ s.size : Nat) : Int) := by rw [← pow8]; simp
  rw [e2]
  omega
end Go.Proofs.YtenpopelbmeemaaGreat.W
/- Chains of rows, in plain words. -/
namespace Go.Proofs.YtenpopelbmeemaaGreat.W
open Go.ChangeShapes Go.WideShapes Go.RowKit Go.Shelf
set_option linter.unusedVariables false
/-- the word of handle i -/
def hw (i : Nat) : Nat := 18445336698825998336 + i
theorem cls_hw (i : Nat) (h : i < 281474976710656) : cls ((hw i : Nat) : Int) = 6 := by
  unfold hw
  exact cls_t3 _ (by omega) (by omega) (by omega)
theorem hw_mod (i : Nat) (h : i < 281474976710656) : hw i % 281474976710656 = i := by unfold hw; omega
theorem hw_lt (i : Nat) (h : i < 281474976710656) : hw i < 18446744073709551616 := by unfold hw; omega
theorem hit_hw {H : List (Option Hc)} {i : Nat} {c : Hc} (hi : i < 281474976710656) (h : H[i]? = some (some c)) : hit H (hw i) = some i := by
  unfold hit
  rw [hw_mod i hi, h]
  rw [if_pos ⟨cls_hw i hi, rfl⟩]
/-- where all are reached -/
theorem zip_all {H : List (Option Hc)} {ws : List Nat} (h : ∀ i c, H[i]? = some (some c) → Rch H ws i) : zipK H (rchB H ws) = H := by
  apply List.ext_getElem?
  intro i
  by_cases hi : i < H.length
  · rw [zipK_get H _ (rchB_len H ws) i hi]
    have e : H[i]? = some H[i] := List.getElem?_eq_getElem hi
    cases hx : H[i] with
    | none =>
      rw [e, hx]
      split <;> rfl
    | some c =>
      rw [hx] at e
      have hr := (rchB_get H ws i).2 (h i c e)
      have : (rchB H ws).getD i false = true := by rw [List.getD_eq_getElem?_getD, hr]; rfl
      rw [if_pos this, e]
  · rw [List.getElem?_eq_none (by rw [zipK_len _ _ (rchB_len H ws)]; omega), List.getElem?_eq_none (by omega)]
theorem row_need (ws : List Nat) : (Hc.row ws).need = 1 + ws.length := by
  unfold Hc.need
  rw [show (Hc.row ws).bytes.length = 8 * ws.length from row_len ws]
  omega
end Go.Proofs.YtenpopelbmeemaaGreat.W
