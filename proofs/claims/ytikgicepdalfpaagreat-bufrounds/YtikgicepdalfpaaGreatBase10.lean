import Derived.Test.YtikgicepdalfpaaGreatBase9
import Derived.Laws.MakeOwn
import Derived.Test.YtikgicepdalfpaaGreatBase8
import Derived.Test.YtikgicepdalfpaaGreatBase7
import Derived.Laws.CopyRow
import Derived.Lib.SlBuf
/- Package heap: load and Get, of a row. -/
namespace Go.Proofs.YtikgicepdalfpaaGreat.W
open Go.ChangeShapes Go.WideShapes Go.RowKit Go.Shelf
set_option linter.unusedVariables false
section
variable {W W' : World} {hb sb : Nat} {vc : Value} {T : Nat → Prop} {H : List (Option Hc)} {u h : Nat}
theorem make_cap (w : World) (B0 n : Nat) (hn : n ≤ 1048576) (hB : B0 ≤ w.heap.size) : ∃ w', (Instr.makeSlice 27 (.int .i64 0) (.int .i64 (n : Int))).run Tryz.prog w = .ok (.slice (some ⟨w.heap.size, 0, none⟩) 0 n) w' ∧ w'.ownsRow B0 22 1 (.slice (some ⟨w.heap.size, 0, none⟩) 0 n) 0 [] ∧ Below w.heap.size w w' := by
  obtain ⟨i0, hi, hz0, hz1, hz2⟩ := info_parts infoW
  obtain ⟨w', h1, h2, h3⟩ := run_makeSlice_owned (P := Tryz.prog) w B0 27 22 i0 (.int .u64 0) 1 underW hi hz0 hz1 .i64 .i64 n (by omega) (by rw [hz2]; omega) (by simp [maxLen]; omega) hB
  exact ⟨w', h1, h2, ((Upd.refl (fun _ => False) w).grown h3 (fun k e => by cases e)).below (Nat.le_refl _) (fun k e => e.elim)⟩
/-- AppendSeq behind words and make, in whatever order they came -/
theorem seq_c (g : HLay W hb sb vc T H u h) (id : Nat) (ws : List Nat) (hrow : H[id]? = some (some (.row ws))) {w1 w2 : World} (b2 : Below W.heap.size W w2) (Bh Bi : Nat) (x0 : Boxed w2 Bh 23 (.pointer (some ⟨hb, 0, none⟩))) (x1 : Boxed w2 Bi 3 (.int .i64 id)) (hBh : W.heap.size ≤ Bh) (hBi : W.heap.size ≤ Bi) (v0 : Value) (hown : w2.ownsRow W.heap.size 22 1 v0 0 []) :
    Calls Tryz.prog 119 #[v0, .func (.func 110) #[] #[.pointer (some ⟨Bh, 0, none⟩), .pointer (some ⟨Bi, 0, none⟩)]] w2 fun e w' => ∃ o cap, e = .returned (.slice o ws.length cap) ∧ Below W.heap.size W w' ∧ w'.ownsRow W.heap.size 22 1 (.slice o ws.length cap) ws.length (ws.map (fun x => .int .u64 (x : Nat))) := by
  have ok := g.ok id _ hrow
  refine (appendSeq_c (g.below b2) id ws hrow ok.2 ok.1 W.heap.size b2.size ⟨g.hlt, g.clt, g.tlt⟩ Bh Bi x0 x1 hBh hBi v0 hown).mono ?_
  rintro e w' ⟨v, rfl, hB, ho⟩
  obtain ⟨o, c, rfl⟩ := slice_of (owns_base ho (b' := 0) (fun _ _ => Nat.zero_le _))
  exact ⟨o, c, rfl, b2.trans hB, ho⟩
set_option maxRecDepth 100000 in
set_option maxHeartbeats 2000000 in
theorem load_row (g : HLay W hb sb vc T H u h) (id : Nat) (ws : List Nat) (hc : H[id]? = some (some (.row ws))) :
    Calls Tryz.prog 76 #[.pointer (some ⟨hb, 0, none⟩), .int .i64 id] W fun e w' => ∃ o cap, e = .returned (.agg #[.int .i64 9, .bool false, .int .i64 0, .string ⟨#[]⟩, .slice none 0 0, .slice o ws.length cap, .int .u64 0, .int .i64 0, .int .i64 0]) ∧ Below W.heap.size W w' ∧ w'.ownsRow (W.heap.size + 1) 22 1 (.slice o ws.length cap) ws.length (ws.map (fun x => .int .u64 (x : Nat))) := by
  have hidl : id < H.length := (List.getElem?_eq_some_iff.1 hc).1
  obtain ⟨b, cap, hvc, hcell, _⟩ := g.at hidl
  have c1 := g.cell 1
  simp only [List.getElem?_cons_succ, List.getElem?_cons_zero] at c1
  rw [hvc] at c1
  have k0 := hcell 0 _ hc (by omega)
  have k1 := hcell 1 _ hc (by omega)
  have k2 := hcell 2 _ hc (by omega)
  have k3 := hcell 3 _ hc (by omega)
  have k4 := hcell 4 _ hc (by omega)
  simp only [clO, Hc.cl, Cl.cells, List.getElem?_cons_succ, List.getElem?_cons_zero, Nat.add_zero] at k0 k1 k2 k3 k4
  have j0 : (0 : Int) ≤ id := by omega
  have j1 : (id : Int) < H.length := by omega
  have ho := g.ok id _ hc
  have cs : ∀ w, Calls Tryz.prog 59 #[.int .i64 9, .bool false] w fun e w' => e = .returned (.int .i64 5) ∧ w' = w := fun w => shape_c 9 false w
  clear hcell
  have hB1 : Below W.heap.size W (W.alloc (.cells #[.int .i64 0, .bool false, .int .i64 0, .string ⟨#[]⟩, .slice none 0 0, .slice none 0 0, .int .u64 0, .int .i64 0, .int .i64 0] 50)) := (Below.refl _ W).alloc (Nat.le_refl _) _
  have hs1 : (W.alloc (.cells #[.int .i64 0, .bool false, .int .i64 0, .string ⟨#[]⟩, .slice none 0 0, .slice none 0 0, .int .u64 0, .int .i64 0, .int .i64 0] 50)).heap.size = W.heap.size + 1 := World.size_alloc ..
  have e1 := World.cell?_alloc_new W #[.int .i64 0, .bool false, .int .i64 0, .string ⟨#[]⟩, .slice none 0 0, .slice none 0 0, .int .u64 0, .int .i64 0, .int .i64 0] 50
  have f1 := World.alloc_heap_new W (.cells #[.int .i64 0, .bool false, .int .i64 0, .string ⟨#[]⟩, .slice none 0 0, .slice none 0 0, .int .u64 0, .int .i64 0, .int .i64 0] 50)
  go_enter Tryz.func76, Tryz.ntmps76
  go_upto_region 1 with fail
  have c1' := below_cell hB1 c1
  have k0' := below_cell hB1 k0
  have k1' := below_cell hB1 k1
  have k2' := below_cell hB1 k2
  have k3' := below_cell hB1 k3
  have k4' := below_cell hB1 k4
  generalize hW1 : W.alloc (.cells #[.int .i64 0, .bool false, .int .i64 0, .string ⟨#[]⟩, .slice none 0 0, .slice none 0 0, .int .u64 0, .int .i64 0, .int .i64 0] 50) = W1 at *
  clear c1 k0 k1 k2 k3 k4 hW1
  go_upto_region 3 with fail
  have hB3 : Below W1.heap.size W1 ((W1.alloc (.cells #[.int .i64 9, .bool false, .int .u64 0, .int .i64 0, .int .i64 0] 105)).alloc (.cells #[.int .i64 9, .bool false, .int .i64 0, .string ⟨#[]⟩, .slice none 0 0, .slice none 0 0, .int .u64 0, .int .i64 0, .int .i64 0] 50)) := ((Below.refl _ W1).alloc (Nat.le_refl _) _).alloc (by rw [World.size_alloc]; omega) _
  have hs2 : (W1.alloc (.cells #[.int .i64 9, .bool false, .int .u64 0, .int .i64 0, .int .i64 0] 105)).heap.size = W.heap.size + 2 := by rw [World.size_alloc, hs1]
  have hs3 : ((W1.alloc (.cells #[.int .i64 9, .bool false, .int .u64 0, .int .i64 0, .int .i64 0] 105)).alloc (.cells #[.int .i64 9, .bool false, .int .i64 0, .string ⟨#[]⟩, .slice none 0 0, .slice none 0 0, .int .u64 0, .int .i64 0, .int .i64 0] 50)).heap.size = W.heap.size + 3 := by rw [World.size_alloc, hs2]
  have eO := World.cell?_alloc_new (W1.alloc (.cells #[.int .i64 9, .bool false, .int .u64 0, .int .i64 0, .int .i64 0] 105)) #[.int .i64 9, .bool false, .int .i64 0, .string ⟨#[]⟩, .slice none 0 0, .slice none 0 0, .int .u64 0, .int .i64 0, .int .i64 0] 50
  have eC := World.cell?_alloc_new W1 #[.int .i64 9, .bool false, .int .u64 0, .int .i64 0, .int .i64 0] 105
  have eC3 : ∀ j, ((W1.alloc (.cells #[.int .i64 9, .bool false, .int .u64 0, .int .i64 0, .int .i64 0] 105)).alloc (.cells #[.int .i64 9, .bool false, .int .i64 0, .string ⟨#[]⟩, .slice none 0 0, .slice none 0 0, .int .u64 0, .int .i64 0, .int .i64 0] 50)).cell? ⟨W.heap.size + 1, j, none⟩ = #[Value.int .i64 9, .bool false, .int .u64 0, .int .i64 0, .int .i64 0][j]? := by
    intro j
    rw [← hs1, ← eC j]
    exact World.cell?_of_block (Below.heap_alloc _ _ _ (by show W1.heap.size < _; rw [World.size_alloc]; omega))
  have fO := World.alloc_heap_new (W1.alloc (.cells #[.int .i64 9, .bool false, .int .u64 0, .int .i64 0, .int .i64 0] 105)) (.cells #[.int .i64 9, .bool false, .int .i64 0, .string ⟨#[]⟩, .slice none 0 0, .slice none 0 0, .int .u64 0, .int .i64 0, .int .i64 0] 50)
  rw [hs2, show W.heap.size + 2 = W.heap.size + 1 + 1 from rfl] at eO fO
  generalize (W1.alloc (.cells #[.int .i64 9, .bool false, .int .u64 0, .int .i64 0, .int .i64 0] 105)).alloc (.cells #[.int .i64 9, .bool false, .int .i64 0, .string ⟨#[]⟩, .slice none 0 0, .slice none 0 0, .int .u64 0, .int .i64 0, .int .i64 0] 50) = W3 at *
  have eR3 : ∀ j, W3.cell? ⟨W.heap.size, j, none⟩ = #[.int .i64 0, .bool false, .int .i64 0, .string ⟨#[]⟩, .slice none 0 0, .slice none 0 0, .int .u64 0, .int .i64 0, .int .i64 0][j]? := by
    intro j
    rw [World.cell?_of_block (hB3.block W.heap.size (by omega))]
    exact e1 j
  have hBW : Below W.heap.size W W3 := hB1.trans (hB3.mono hB1.size)
  have g3 := g.below hBW
  have fR : W3.heap[W.heap.size]? = some (.cells #[.int .i64 0, .bool false, .int .i64 0, .string ⟨#[]⟩, .slice none 0 0, .slice none 0 0, .int .u64 0, .int .i64 0, .int .i64 0] 50) := (hB3.block W.heap.size (by omega)).trans f1
  have c0 := g3.cell 0
  simp only [List.getElem?_cons_zero] at c0
  have hlen : (Hc.row ws).bytes.length = 8 * ws.length := row_len ws
  have hl : ws.length ≤ 1048576 := ho.2
  have cb := fun w hB => bytes_c ((g3.below hB : HLay w hb sb vc T H u h)) id _ hc
  rw [hlen] at cb
  have cq := fun (w2 : World) (b2 : Below W3.heap.size W3 w2) => seq_c (w1 := W3) g3 id ws hc b2
  have kp : Hid (∀ w4, Below W3.heap.size W3 w4 → w4.heap[W.heap.size]? = some (.cells #[.int .i64 0, .bool false, .int .i64 0, .string ⟨#[]⟩, .slice none 0 0, .slice none 0 0, .int .u64 0, .int .i64 0, .int .i64 0] 50) ∧ w4.heap[W.heap.size + 1 + 1]? = some (.cells #[.int .i64 9, .bool false, .int .i64 0, .string ⟨#[]⟩, .slice none 0 0, .slice none 0 0, .int .u64 0, .int .i64 0, .int .i64 0] 50)) := by
    show ∀ w4, _
    intro w4 hB4
    exact ⟨(hB4.block _ (by omega)).trans fR, (hB4.block _ (by omega)).trans fO⟩
  have cw := fun w => words_c w hb id
  have q8 : Int.tdiv ((8 * ws.length : Nat) : Int) 8 = ((ws.length : Nat) : Int) := by rw [Int.tdiv_eq_ediv_of_nonneg (by omega)]; omega
  have bD : Below W3.heap.size W3 W3.drew := ⟨rfl, rfl, rfl, Nat.le_refl _, fun _ _ => rfl⟩
  clear eR3 fR fO e1 c1' k0' k1' k2' k3' k4' f1
  go_upto_region 12 with (go_at_call 59; (with_reducible refine (cs _).mono ?_); rintro e w' ⟨rfl, hw⟩; (have hw' := hw.symm); subst hw'; clear hw)
  have HBW := hid hBW
  have HS3 := hid hs3
  have HL := hid hl
  clear g g3 ho hc hBW hB1 hB3 hs1 hs2 hs3 j0 j1 hlen hl
  generalize hm8 : ((8 * ws.length : Nat) : Int) = m8 at *
  clear hm8
  generalize hnn : ws.length = nn at *
  have wnn : IntKind.i64.wrap (nn : Int) = (nn : Int) := by have := HL.out; rw [IntKind.wrap_i64]; omega
  have fin : Hid (∀ (w5 : World) (o : Option Addr) (cap : Nat), Below W3.heap.size W3 w5 → w5.ownsRow W3.heap.size 22 1 (.slice o nn cap) nn (ws.map (fun x => .int .u64 (x : Nat))) → w5.heap[W.heap.size]? = some (.cells #[.int .i64 0, .bool false, .int .i64 0, .string ⟨#[]⟩, .slice none 0 0, .slice none 0 0, .int .u64 0, .int .i64 0, .int .i64 0] 50) ∧ w5.heap[W.heap.size + 1 + 1]? = some (.cells #[.int .i64 9, .bool false, .int .i64 0, .string ⟨#[]⟩, .slice none 0 0, .slice none 0 0, .int .u64 0, .int .i64 0, .int .i64 0] 50) ∧ Below W.heap.size W w5 ∧ ∀ q, (Value.slice o nn cap).ownBlock = some q → W.heap.size + 3 ≤ q) := by
    show ∀ (w5 : World), _
    intro w5 o cap hB5 hown
    obtain ⟨fR, fO⟩ := kp.out w5 hB5
    exact ⟨fR, fO, HBW.out.trans (hB5.mono HBW.out.size), fun q e => by have := (hown.lt q e).1; have := HS3.out; omega⟩
  clear kp
  refine wp_region_held_drew (S := fun _ => True) (by kernel_rfl) trivial ?_
  intro hS
  (refine wpAnyH_take (i := 0) (v := ?_) rfl (by kernel_rfl) (by kernel_rfl) (by kernel_rfl) (fun _ _ _ h => h) (Or.inl ⟨by rfl, ?_⟩) trivial ?_); rotate_left; focus (intro w' hSw; go_simp; (try with_reducible rfl)); (try simp only [Act.put, List.getElem_toArray, List.getElem_cons_zero, List.getElem_cons_succ, List.setIfInBounds_toArray, List.set_cons_zero, List.set_cons_succ])
  (refine wpAnyH_take (i := 1) (v := ?_) rfl (by kernel_rfl) (by kernel_rfl) (by kernel_rfl) (fun _ _ _ h => h) (Or.inl ⟨by rfl, ?_⟩) trivial ?_); rotate_left; focus (intro w' hSw; go_simp; (try with_reducible rfl)); (try simp only [Act.put, List.getElem_toArray, List.getElem_cons_zero, List.getElem_cons_succ, List.setIfInBounds_toArray, List.set_cons_zero, List.set_cons_succ])
  (refine wpAnyH_take (i := 5) (v := ?_) rfl (by kernel_rfl) (by kernel_rfl) (by kernel_rfl) (fun _ _ _ h => h) (Or.inl ⟨by rfl, ?_⟩) trivial ?_); rotate_left; focus (intro w' hSw; go_simp; (try with_reducible rfl)); (try simp only [Act.put, List.getElem_toArray, List.getElem_cons_zero, List.getElem_cons_succ, List.setIfInBounds_toArray, List.set_cons_zero, List.set_cons_succ])
  (refine wpAnyH_take (i := 6) (v := ?_) rfl (by kernel_rfl) (by kernel_rfl) (by kernel_rfl) (fun _ _ _ h => h) (Or.inl ⟨by rfl, ?_⟩) trivial ?_); rotate_left; focus (intro w' hSw; go_simp; (try with_reducible rfl)); (try simp only [Act.put, List.getElem_toArray, List.getElem_cons_zero, List.getElem_cons_succ, List.setIfInBounds_toArray, List.set_cons_zero, List.set_cons_succ])
  have bW3d := bD
  generalize W3.drew = W3d at *
  refine wpAnyH_ready (rs := [2]) (by kernel_rfl) (by simp) ?_
  refine AllReadyH.cons rfl (fun K hK => ?_) AllReadyH.nil
  · go_simp
    refine (cb _ bW3d).mono ?_
    rintro e w' ⟨rfl, hw⟩
    have hw' := hw.symm
    subst hw'
    clear hw
    refine hK.out _ _ trivial (fun _ => ?_)
    clear hK K
    (refine wpAnyH_take (i := 3) (v := ?_) rfl (by kernel_rfl) (by kernel_rfl) (by kernel_rfl) (fun _ _ _ h => h) (Or.inl ⟨by rfl, ?_⟩) trivial ?_); rotate_left; focus (intro w' hSw; go_simp; (try with_reducible rfl)); (try simp only [Act.put, List.getElem_toArray, List.getElem_cons_zero, List.getElem_cons_succ, List.setIfInBounds_toArray, List.set_cons_zero, List.set_cons_succ])
    refine wpAnyH_ready (rs := [4, 7]) (by kernel_rfl) (by simp) ?_
    refine AllReadyH.cons rfl (fun K hK => ?_) (AllReadyH.cons rfl (fun K hK => ?_) AllReadyH.nil)
    · obtain ⟨wm, hmk, hom, bmk⟩ := make_cap W3d W3.heap.size nn HL.out (bW3d.size)
      have bwm := bW3d.trans (bmk.mono bW3d.size)
      go_simp
      refine hK.out _ _ trivial (fun _ => ?_)
      clear hK K hmk
      (try simp only [Act.put, List.getElem_toArray, List.getElem_cons_zero, List.getElem_cons_succ, List.setIfInBounds_toArray, List.set_cons_zero, List.set_cons_succ])
      refine wpAnyH_ready (rs := [7]) (by kernel_rfl) (by simp) ?_
      refine AllReadyH.cons rfl (fun K hK => ?_) AllReadyH.nil
      go_simp
      refine (cw _).mono ?_
      rintro e ww ⟨rfl, hw⟩
      have bw1 : Below wm.heap.size wm ww := by
        rw [hw]
        exact ((Below.refl _ wm).alloc (Nat.le_refl _) _).alloc (by rw [World.size_alloc]; omega) _
      have xh : Boxed ww wm.heap.size 23 (.pointer (some ⟨hb, 0, none⟩)) := by
        rw [hw]
        exact box_of (Below.heap_alloc _ _ _ (by rw [World.size_alloc]; omega)) (Boxed.new wm _ _)
      have xi : Boxed ww (wm.heap.size + 1) 3 (.int .i64 id) := by
        have := Boxed.new (wm.alloc (.cells #[.pointer (some ⟨hb, 0, none⟩)] 23)) 3 (.int .i64 id)
        rw [World.size_alloc] at this
        rw [hw]
        exact this
      clear hw
      have bww := bwm.trans (bw1.mono bwm.size)
      refine hK.out _ _ trivial (fun _ => ?_)
      clear hK K
      (try simp only [Act.put, List.getElem_toArray, List.getElem_cons_zero, List.getElem_cons_succ, List.setIfInBounds_toArray, List.set_cons_zero, List.set_cons_succ])
      refine wpAnyH_ready (rs := [8]) (by kernel_rfl) (by simp) ?_
      refine AllReadyH.cons rfl (fun K hK => ?_) AllReadyH.nil
      go_simp
      refine (cq ww bww _ _ xh xi (by have := bwm.size; omega) (by have := bwm.size; omega) _ (owns_on hom (fun k e => bw1.block k (hom.lt k e).2))).mono ?_
      rintro e w5 ⟨o5, c5, rfl, b5, ho5⟩
      refine hK.out _ _ trivial (fun _ => ?_)
      clear hK K cq
      (try simp only [Act.put, List.getElem_toArray, List.getElem_cons_zero, List.getElem_cons_succ, List.setIfInBounds_toArray, List.set_cons_zero, List.set_cons_succ])
      obtain ⟨fR, fO, hBf, hge⟩ := fin.out w5 o5 c5 b5 ho5
      have eR := fun j => cell_of_row w5 W.heap.size j _ _ _ fR
      have eO := fun j => cell_of_row w5 (W.heap.size + 1 + 1) j _ _ _ fO
      have zR : ∀ j, w5.frozen? ⟨W.heap.size, j, none⟩ = false := fun j => by simp [World.frozen?, fR]
      have zO : ∀ j, w5.frozen? ⟨W.heap.size + 1 + 1, j, none⟩ = false := fun j => by simp [World.frozen?, fO]
      have FR := hid fR
      have HBf := hid hBf
      have HO := hid ho5
      have HG := hid hge
      clear fR fO hBf ho5 hge fin b5 bww bwm xh xi bmk bw1 hom bW3d
      (refine wpAnyH_take (i := 9) (v := ?_) rfl (by kernel_rfl) (by kernel_rfl) (by kernel_rfl) (fun _ _ _ h => h) (Or.inl ⟨by rfl, ?_⟩) trivial ?_); rotate_left; focus (intro w' hSw; go_simp; (try with_reducible rfl)); (try simp only [Act.put, List.getElem_toArray, List.getElem_cons_zero, List.getElem_cons_succ, List.setIfInBounds_toArray, List.set_cons_zero, List.set_cons_succ])
      refine wpAnyH_ready (rs := [10]) (by kernel_rfl) (by simp) ?_
      refine AllReadyH.cons rfl (fun K hK => ?_) AllReadyH.nil
      go_simp
      refine hK.out _ _ trivial (fun _ => ?_)
      clear hK K
      (try simp only [Act.put, List.getElem_toArray, List.getElem_cons_zero, List.getElem_cons_succ, List.setIfInBounds_toArray, List.set_cons_zero, List.set_cons_succ])
      refine wpAnyH_done (by kernel_rfl) ?_ _
      go_wp2
      subst hnn
      refine bodyPost_ret (cell_ret rfl _ _ W.heap.size _ _ _ _ _ _ _ _ _ (0, 0) rfl (nine_set ((Below.heap_setCell _ _ _ _ (by show W.heap.size ≠ W.heap.size + 1 + 1; omega)).trans FR.out) _ _ _ _ _ _ _ _ _)) rfl ?_
      refine ⟨o5, c5, rfl, nine_below (HBf.out.setCell (p := ⟨W.heap.size + 1 + 1, 5, none⟩) (by show W.heap.size ≤ W.heap.size + 1 + 1; omega) _) (Nat.le_refl _) _ _ _ _ _ _ _ _ _, ?_⟩
      refine owns_on (owns_base HO.out (fun q e => by have := HG.out q e; omega)) (fun q e => ?_)
      have hq := HG.out q e
      refine (nine_far _ _ _ _ _ _ _ _ _ _ _ q (by omega)).trans (Below.heap_setCell _ _ _ _ ?_)
      show q ≠ W.heap.size + 1 + 1
      omega
    · go_simp
      refine (cw _).mono ?_
      rintro e ww ⟨rfl, hw⟩
      have bw1 : Below W3d.heap.size W3d ww := by
        rw [hw]
        exact ((Below.refl _ W3d).alloc (Nat.le_refl _) _).alloc (by rw [World.size_alloc]; omega) _
      have xh : Boxed ww W3d.heap.size 23 (.pointer (some ⟨hb, 0, none⟩)) := by
        rw [hw]
        exact box_of (Below.heap_alloc _ _ _ (by rw [World.size_alloc]; omega)) (Boxed.new W3d _ _)
      have xi : Boxed ww (W3d.heap.size + 1) 3 (.int .i64 id) := by
        have := Boxed.new (W3d.alloc (.cells #[.pointer (some ⟨hb, 0, none⟩)] 23)) 3 (.int .i64 id)
        rw [World.size_alloc] at this
        rw [hw]
        exact this
      clear hw
      have bww := bW3d.trans (bw1.mono bW3d.size)
      refine hK.out _ _ trivial (fun _ => ?_)
      clear hK K
      (try simp only [Act.put, List.getElem_toArray, List.getElem_cons_zero, List.getElem_cons_succ, List.setIfInBounds_toArray, List.set_cons_zero, List.set_cons_succ])
      refine wpAnyH_ready (rs := [4]) (by kernel_rfl) (by simp) ?_
      refine AllReadyH.cons rfl (fun K hK => ?_) AllReadyH.nil
      obtain ⟨wm, hmk, hom, bmk⟩ := make_cap ww W3.heap.size nn HL.out (bww.size)
      have bwm := bww.trans (bmk.mono bww.size)
      go_simp
      refine hK.out _ _ trivial (fun _ => ?_)
      clear hK K hmk
      (try simp only [Act.put, List.getElem_toArray, List.getElem_cons_zero, List.getElem_cons_succ, List.setIfInBounds_toArray, List.set_cons_zero, List.set_cons_succ])
      refine wpAnyH_ready (rs := [8]) (by kernel_rfl) (by simp) ?_
      refine AllReadyH.cons rfl (fun K hK => ?_) AllReadyH.nil
      go_simp
      refine (cq wm bwm _ _ (box_of (bmk.block _ xh.lt) xh) (box_of (bmk.block _ xi.lt) xi) (by have := bW3d.size; omega) (by have := bW3d.size; omega) _ hom).mono ?_
      rintro e w5 ⟨o5, c5, rfl, b5, ho5⟩
      refine hK.out _ _ trivial (fun _ => ?_)
      clear hK K cq
      (try simp only [Act.put, List.getElem_toArray, List.getElem_cons_zero, List.getElem_cons_succ, List.setIfInBounds_toArray, List.set_cons_zero, List.set_cons_succ])
      obtain ⟨fR, fO, hBf, hge⟩ := fin.out w5 o5 c5 b5 ho5
      have eR := fun j => cell_of_row w5 W.heap.size j _ _ _ fR
      have eO := fun j => cell_of_row w5 (W.heap.size + 1 + 1) j _ _ _ fO
      have zR : ∀ j, w5.frozen? ⟨W.heap.size, j, none⟩ = false := fun j => by simp [World.frozen?, fR]
      have zO : ∀ j, w5.frozen? ⟨W.heap.size + 1 + 1, j, none⟩ = false := fun j => by simp [World.frozen?, fO]
      have FR := hid fR
      have HBf := hid hBf
      have HO := hid ho5
      have HG := hid hge
      clear fR fO hBf ho5 hge fin b5 bwm bww xh xi bmk bw1 hom bW3d
      (refine wpAnyH_take (i := 9) (v := ?_) rfl (by kernel_rfl) (by kernel_rfl) (by kernel_rfl) (fun _ _ _ h => h) (Or.inl ⟨by rfl, ?_⟩) trivial ?_); rotate_left; focus (intro w' hSw; go_simp; (try with_reducible rfl)); (try simp only [Act.put, List.getElem_toArray, List.getElem_cons_zero, List.getElem_cons_succ, List.setIfInBounds_toArray, List.set_cons_zero, List.set_cons_succ])
      refine wpAnyH_ready (rs := [10]) (by kernel_rfl) (by simp) ?_
      refine AllReadyH.cons rfl (fun K hK => ?_) AllReadyH.nil
      go_simp
      refine hK.out _ _ trivial (fun _ => ?_)
      clear hK K
      (try simp only [Act.put, List.getElem_toArray, List.getElem_cons_zero, List.getElem_cons_succ, List.setIfInBounds_toArray, List.set_cons_zero, List.set_cons_succ])
      refine wpAnyH_done (by kernel_rfl) ?_ _
      go_wp2
      subst hnn
      refine bodyPost_ret (cell_ret rfl _ _ W.heap.size _ _ _ _ _ _ _ _ _ (0, 0) rfl (nine_set ((Below.heap_setCell _ _ _ _ (by show W.heap.size ≠ W.heap.size + 1 + 1; omega)).trans FR.out) _ _ _ _ _ _ _ _ _)) rfl ?_
      refine ⟨o5, c5, rfl, nine_below (HBf.out.setCell (p := ⟨W.heap.size + 1 + 1, 5, none⟩) (by show W.heap.size ≤ W.heap.size + 1 + 1; omega) _) (Nat.le_refl _) _ _ _ _ _ _ _ _ _, ?_⟩
      refine owns_on (owns_base HO.out (fun q e => by have := HG.out q e; omega)) (fun q e => ?_)
      have hq := HG.out q e
      refine (nine_far _ _ _ _ _ _ _ _ _ _ _ q (by omega)).trans (Below.heap_setCell _ _ _ _ ?_)
      show q ≠ W.heap.size + 1 + 1
      omega
theorem get_row (g : HLay W hb sb vc T H u h) (w : Nat) (hw : w < 18446744073709551616) (id : Nat) (hi : hit H w = some id) (ws : List Nat) (hc : H[id]? = some (some (.row ws))) :
    Calls Tryz.prog 43 #[.pointer (some ⟨hb, 0, none⟩), .int .u64 w] W fun e w' => ∃ o cap, e = .returned (.tuple #[.agg #[.int .i64 9, .bool false, .int .i64 0, .string ⟨#[]⟩, .slice none 0 0, .slice o ws.length cap, .int .u64 0, .int .i64 0, .int .i64 0], .int .i64 0]) ∧ Below W.heap.size W w' ∧ w'.ownsRow W.heap.size 22 1 (.slice o ws.length cap) ws.length (ws.map (fun x => .int .u64 (x : Nat))) := by
  have hB1 : Below W.heap.size W (W.alloc (.cells #[.int .i64 0, .bool false, .int .i64 0, .string ⟨#[]⟩, .slice none 0 0, .slice none 0 0, .int .u64 0, .int .i64 0, .int .i64 0] 50)) := (Below.refl _ W).alloc (Nat.le_refl _) _
  have hs1 : (W.alloc (.cells #[.int .i64 0, .bool false, .int .i64 0, .string ⟨#[]⟩, .slice none 0 0, .slice none 0 0, .int .u64 0, .int .i64 0, .int .i64 0] 50)).heap.size = W.heap.size + 1 := World.size_alloc ..
  have f1 := World.alloc_heap_new W (.cells #[.int .i64 0, .bool false, .int .i64 0, .string ⟨#[]⟩, .slice none 0 0, .slice none 0 0, .int .u64 0, .int .i64 0, .int .i64 0] 50)
  have cf := find_c (g.below hB1) w hw
  rw [hi] at cf
  simp only [Option.getD_some, Option.isSome_some] at cf
  have cl := load_row (g.below hB1) id ws hc

  have kp : Hid (∀ w4, Below (W.alloc (.cells #[.int .i64 0, .bool false, .int .i64 0, .string ⟨#[]⟩, .slice none 0 0, .slice none 0 0, .int .u64 0, .int .i64 0, .int .i64 0] 50)).heap.size (W.alloc (.cells #[.int .i64 0, .bool false, .int .i64 0, .string ⟨#[]⟩, .slice none 0 0, .slice none 0 0, .int .u64 0, .int .i64 0, .int .i64 0] 50)) w4 → w4.heap[W.heap.size]? = some (.cells #[.int .i64 0, .bool false, .int .i64 0, .string ⟨#[]⟩, .slice none 0 0, .slice none 0 0, .int .u64 0, .int .i64 0, .int .i64 0] 50) ∧ Below W.heap.size W w4) := by
    show ∀ w4, _
    intro w4 hB4
    exact ⟨(hB4.block _ (by omega)).trans f1, hB1.trans (hB4.mono hB1.size)⟩
  clear hc
  have S1 := hid hs1
  generalize hnn : ws.length = nn at *
  go_enter Tryz.func43, Tryz.ntmps43
  go_upto_region 1 with fail
  generalize W.alloc (.cells #[.int .i64 0, .bool false, .int .i64 0, .string ⟨#[]⟩, .slice none 0 0, .slice none 0 0, .int .u64 0, .int .i64 0, .int .i64 0] 50) = W1 at *
  go_wp2_with (first | (go_at_call 68; (with_reducible refine cf.mono ?_); rintro e w' ⟨rfl, hw⟩; (have hw' := hw.symm); subst hw'; clear hw cf) | (go_at_call 76; (with_reducible refine cl.mono ?_); rintro e w4 ⟨o, cap, rfl, hB4, hown⟩; clear cl; (obtain ⟨fR, hBf⟩ := kp.out w4 hB4); (have HO := hid hown); clear hown; (have eR := fun j => cell_of_row w4 W.heap.size j _ _ _ fR); (have zR := (fun j => by simp [World.frozen?, fR] : ∀ j, w4.frozen? ⟨W.heap.size, j, none⟩ = false)); (have FR := hid fR); clear fR))
  refine bodyPost_ret (cell_ret2 rfl _ _ W.heap.size _ _ _ _ _ _ _ _ _ (0, 0) rfl (nine_set FR.out _ _ _ _ _ _ _ _ _)) rfl ?_
  subst hnn
  refine ⟨o, cap, rfl, nine_below hBf (Nat.le_refl _) _ _ _ _ _ _ _ _ _, ?_⟩
  have HG : ∀ q, (Value.slice o ws.length cap).ownBlock = some q → W.heap.size + 1 ≤ q := fun q e => by have := (HO.out.lt q e).1; have := S1.out; omega
  refine owns_on (owns_base HO.out (fun q e => by have := HG q e; omega)) (fun q e => ?_)
  exact nine_far _ _ _ _ _ _ _ _ _ _ _ q (by have := HG q e; omega)
end
end Go.Proofs.YtikgicepdalfpaaGreat.W
/- Steps of statements over a heap of their own: a view is put, what is reached is left; bytes and words that are made. -/
namespace Go.Proofs.YtikgicepdalfpaaGreat.W
open Go.ChangeShapes Go.WideShapes Go.RowKit Go.Shelf
set_option linter.unusedVariables false
theorem lt_get {W : World} {b : Nat} {o : Obj} (h : W.heap[b]? = some o) : b < W.heap.size := (Array.getElem?_eq_some_iff.1 h).1
theorem wf_i64 {i : Int} (h : (Lit.int .i64 i).wf = true) : -9223372036854775808 ≤ i ∧ i ≤ 9223372036854775807 := by
  simp [Lit.wf] at h
  have e1 : IntKind.i64.min = -9223372036854775808 := by decide
  have e2 : IntKind.i64.max = 9223372036854775807 := by decide
  omega
theorem wf_u64 {i : Int} (h : (Lit.int .u64 i).wf = true) : 0 ≤ i ∧ i ≤ 18446744073709551615 := by
  simp [Lit.wf] at h
  have e1 : IntKind.u64.min = 0 := by decide
  have e2 : IntKind.u64.max = 18446744073709551615 := by decide
  omega
theorem wf_u8 {i : Int} (h : (Lit.int .u8 i).wf = true) : 0 ≤ i ∧ i ≤ 255 := by
  simp [Lit.wf] at h
  have e1 : IntKind.u8.min = 0 := by decide
  have e2 : IntKind.u8.max = 255 := by decide
  omega
theorem view_need (k : Int) (b p n : Nat) : (Hc.view k b p n).need = 1 := by unfold Hc.need; show 1 + (0 + 7) / 8 = 1; rfl
theorem bufn_need (k : Int) (bs : List Nat) : (Hc.buf k bs).need = 1 + (bs.length + 7) / 8 := rfl
section
variable {W0 W W1 W' : World} {hb : Nat} {H : List (Option Hc)} {u : Nat} {K K' : Nat → Prop}
theorem hf_view (q : Hf W0 W1 hb H u K) (k : Int) (hk : elB k > 0) (ba p n : Nat) (hba : ba < 18446744073709551616) (id : Nat) (hi : hit H ba = some id) (k2 : Int) (bs : List Nat) (hc : H[id]? = some (some (.buf k2 bs))) (hp : p ≤ bs.length) (hpm : p % elB k = 0) (hn : n ≤ (bs.length - p) / elB k) (hf : sumH H + 1 ≤ u) (vr : Value) (rs : List Nat) (hr : WordsAt W1 vr rs) :
    Calls Tryz.prog 15 #[.pointer (some ⟨hb, 0, none⟩), .agg #[.int .i64 k, .bool true, .int .i64 0, .string ⟨#[]⟩, .slice none 0 0, .slice none 0 0, .int .u64 ba, .int .i64 p, .int .i64 n], vr] W1 fun e w' => e = .returned (.tuple #[.int .u64 (hw (lid H) : Nat), .int .i64 0]) ∧ Hf W0 w' hb (putH H (lid H) (some (.view k ba p n))) u K ∧ Upd (Ch W0 K) W1 w' := by
  obtain ⟨h1, S, h2, h3, h4⟩ := q
  exact (put_view h2 (fun k e => (h3 k e).2) k hk ba p n hba id hi k2 bs hc hp hpm hn none none 0 0 vr rs hr).mono (fun e w' hP => Hf.fits h1 h3 h4 (by rw [view_need]; exact hf) hP)
theorem reach_all {ws : List Nat} (hall : ∀ i c, H[i]? = some (some c) → Rch H ws i) : reachN H ws = sumH H := by
  have := zip_all hall
  unfold reachN
  rw [← zipK_sum, this]
theorem own_at {B0 gb cap n : Nat} {t : TypeId} {xs : List Value} (h : W.ownsRow B0 t 1 (.slice (some ⟨gb, 0, none⟩) n cap) n xs) (i : Nat) (v : Value) (hi : xs[i]? = some v) : W.cell? ⟨gb, i, none⟩ = some v := by
  have := h.cells (g := gb) rfl i v hi
  have e : ((⟨gb, 0, none⟩ : Addr).add i) = ⟨gb, i, none⟩ := by unfold Addr.add; split <;> simp_all
  rwa [e] at this
/-- bytes that were made, as a row -/
theorem byteRow_own {B0 gb cap n : Nat} {bs : List Nat} (h : W.ownsRow B0 5 1 (.slice (some ⟨gb, 0, none⟩) n cap) n (bs.map byteV)) : ByteRow W (some ⟨gb, 0, none⟩) bs := by
  refine .inr ⟨gb, 0, rfl, fun i hi => ?_⟩
  rw [Nat.zero_add]
  exact own_at h i (byteV bs[i]) (by rw [List.getElem?_map, List.getElem?_eq_getElem hi]; rfl)
theorem made_bytes (w : World) (n : Nat) (hn : n ≤ 8388608) : ∃ w', (Instr.makeSlice 48 (.int .i64 (n : Int)) (.int .i64 (n : Int))).run Tryz.prog w = .ok (.slice (some ⟨w.heap.size, 0, none⟩) n n) w' ∧ ByteRow w' (some ⟨w.heap.size, 0, none⟩) (List.replicate n 0) ∧ Below w.heap.size w w' ∧ w.heap.size < w'.heap.size := by
  obtain ⟨w', h1, h2, h3⟩ := make_bytes w n hn
  have hU : Upd (fun _ => False) w w' := (Upd.refl (fun _ => False) w).grown h3 (fun k e => by cases e)
  exact ⟨w', h1, byteRow_own h2, hU.below (Nat.le_refl _) (fun k e => e.elim), (h2.lt _ rfl).2⟩
/-- a buffer of noughts that were made -/
theorem hf_blank (q : Hf W0 W hb H u K) (hB : Below W.heap.size W W1) (k : Int) (hk : elB k > 0) (n : Nat) (hl : n ≤ 8388608) (hmod : n % elB k = 0) (gb : Nat) (hg0 : W.heap.size ≤ gb) (hg1 : gb < W1.heap.size) (hv : ByteRow W1 (some ⟨gb, 0, none⟩) (List.replicate n 0)) (hf : sumH H + (1 + (n + 7) / 8) ≤ u) (vr : Value) (rs : List Nat) (hr : WordsAt W1 vr rs) :
    Calls Tryz.prog 15 #[.pointer (some ⟨hb, 0, none⟩), .agg #[.int .i64 k, .bool false, .int .i64 0, .string ⟨#[]⟩, .slice (some ⟨gb, 0, none⟩) n n, .slice none 0 0, .int .u64 0, .int .i64 0, .int .i64 0], vr] W1 fun e w' => e = .returned (.tuple #[.int .u64 (hw (lid H) : Nat), .int .i64 0]) ∧ Hf W0 w' hb (putH H (lid H) (some (.buf k (List.replicate n 0)))) u K ∧ Upd (Ch W0 K) W w' := by
  have q1 := q.below hB
  have hlen : (List.replicate n 0).length = n := List.length_replicate
  have := hf_buf q1 k hk (List.replicate n 0) (fun x hx => by rw [(List.mem_replicate.1 hx).2]; decide) (by rw [hlen]; exact hl) (by rw [hlen]; exact hmod) (some ⟨gb, 0, none⟩) none n 0 (by rw [hlen]; exact Nat.le_refl _) hv (fun x e => by cases e; exact .inr ⟨hg0, hg1⟩) (by rw [bufn_need, hlen]; exact hf) vr rs hr
  rw [hlen] at this
  refine this.mono ?_
  rintro e w' ⟨rfl, h1, h2⟩
  refine ⟨rfl, h1.sub (fun k e => .inl e), (Upd.of_below hB).trans' (h2.mono ?_)⟩
  rintro x ⟨e1, e2⟩
  exact ⟨fun e => e1 (.inl e), e2⟩
end
end Go.Proofs.YtikgicepdalfpaaGreat.W
/- Package buf: Width, isThing, mostElements; slices.Repeat of one word. -/
namespace Go.Proofs.YtikgicepdalfpaaGreat.W
open Go.ChangeShapes Go.WideShapes Go.RowKit Go.Shelf
set_option linter.unusedVariables false
theorem width_c (k : Int) (W : World) : Calls Tryz.prog 30 #[.int .i64 k] W fun e w' => e = .returned (.int .i64 (elB k : Nat)) ∧ w' = W := by
  rcases elB_cases k with ⟨h, rfl⟩ | ⟨h, rfl⟩ | ⟨h, rfl⟩ | ⟨h, rfl⟩ | ⟨h, h5, h6, h7, h8⟩
  all_goals
    rw [h]
    clear h
    go_enter Tryz.func30, Tryz.ntmps30
    go_wp2
    go_ret
    exact ⟨rfl, rfl⟩
/-- a kind of buffers, or of rows -/
def thK (k : Int) : Prop := k = 9 ∨ elB k > 0
/-- bytes of an element of a thing -/
def elT (k : Int) : Nat := if k = 9 then 8 else elB k
theorem elT_cases {k : Int} (h : thK k) : elT k = 1 ∨ elT k = 2 ∨ elT k = 4 ∨ elT k = 8 := by
  unfold elT
  rcases h with rfl | h
  · exact .inr (.inr (.inr rfl))
  · have h9 : ¬ k = 9 := by rintro rfl; simp [elB] at h
    rw [if_neg h9]
    rcases elB_cases k with ⟨h, _⟩ | ⟨h, _⟩ | ⟨h, _⟩ | ⟨h, _⟩ | ⟨h, _⟩ <;> omega
theorem isThing_c (k : Int) (hk : thK k) (W : World) : Calls Tryz.prog 13 #[.int .i64 k] W fun e w' => e = .returned (.bool true) ∧ w' = W := by
  rcases hk with rfl | hk
  · go_enter Tryz.func13, Tryz.ntmps13
    go_wp2
    go_ret
    exact ⟨rfl, rfl⟩
  · have h9 : ¬ k = 9 := by rintro rfl; simp [elB] at hk
    have cw := width_c k W
    have hk' : ((elB k : Nat) : Int) > 0 := by omega
    generalize ((elB k : Nat) : Int) = E at *
    clear hk
    go_enter Tryz.func13, Tryz.ntmps13
    go_wp2_with (go_at_call 30; (with_reducible refine cw.mono ?_); rintro e w' ⟨rfl, hw⟩; (have hw' := hw.symm); subst hw'; clear hw)
    go_ret
    exact ⟨rfl, rfl⟩
/-- how many elements fit -/
def mostE (u : Nat) (k : Int) : Int := (((u : Int) - 1) * 8) / (elT k : Nat)
theorem most_tdiv (u : Nat) {k : Int} (h : thK k) : Int.tdiv (((u : Int) - 1) * 8) ((elT k : Nat) : Int) = mostE u k := by
  unfold mostE
  rcases Nat.eq_zero_or_pos u with rfl | hu
  · rcases elT_cases h with h | h | h | h <;> rw [h] <;> decide
  · rw [Int.tdiv_eq_ediv_of_nonneg (by omega)]
section
variable {W : World} {hb sb : Nat} {vc : Value} {T : Nat → Prop} {H : List (Option Hc)} {u h : Nat}
theorem hroom_c (g : HLay W hb sb vc T H u h) : Calls Tryz.prog 31 #[.pointer (some ⟨hb, 0, none⟩)] W fun e w' => e = .returned (.int .i64 u) ∧ w' = W := by
  have c2 := g.cell 2
  simp only [List.getElem?_cons_succ, List.getElem?_cons_zero] at c2
  clear g
  go_enter Tryz.func31, Tryz.ntmps31
  go_wp2
  go_ret
  exact ⟨rfl, rfl⟩
theorem mostElements_c (g : HLay W hb sb vc T H u h) (k : Int) (hk : thK k) : Calls Tryz.prog 14 #[.pointer (some ⟨hb, 0, none⟩), .int .i64 k] W fun e w' => e = .returned (.int .i64 (mostE u k)) ∧ w' = W := by
  have hu := g.u1
  have cr := hroom_c g
  have w1 : IntKind.i64.wrap ((u : Int) - 1) = (u : Int) - 1 := by rw [IntKind.wrap_i64]; omega
  have w2 : IntKind.i64.wrap (((u : Int) - 1) * 8) = ((u : Int) - 1) * 8 := by rw [IntKind.wrap_i64]; omega
  have cw := width_c k W
  have w3 : wrap64 (mostE u k) = mostE u k := by
    have h1 : -8388608 ≤ mostE u k ∧ mostE u k ≤ 8388608 := by
      unfold mostE
      rcases elT_cases hk with h | h | h | h <;> rw [h] <;> omega
    unfold wrap64; omega
  rcases hk with rfl | hk
  · have hm : Int.tdiv (((u : Int) - 1) * 8) 8 = mostE u 9 := most_tdiv u (.inl rfl)
    generalize mostE u 9 = M at *
    clear g hu cw
    go_enter Tryz.func14, Tryz.ntmps14
    go_wp2_with (go_at_call 31; (with_reducible refine cr.mono ?_); rintro e w' ⟨rfl, hw⟩; (have hw' := hw.symm); subst hw'; clear hw)
    go_ret
    exact ⟨ret_int w3, rfl⟩
  · have h9 : ¬ k = 9 := by rintro rfl; simp [elB] at hk
    have hm : Int.tdiv (((u : Int) - 1) * 8) ((elB k : Nat) : Int) = mostE u k := by have := most_tdiv u (k := k) (.inr hk); unfold elT at this; rw [if_neg h9] at this; exact this
    have e0 : ¬ ((elB k : Nat) : Int) = 0 := by omega
    generalize mostE u k = M at *
    generalize ((elB k : Nat) : Int) = E at *
    clear g hu hk
    go_enter Tryz.func14, Tryz.ntmps14
    go_wp2_with (first | (go_at_call 31; (with_reducible refine cr.mono ?_); rintro e w' ⟨rfl, hw⟩; (have hw' := hw.symm); subst hw'; clear hw) | (go_at_call 30; (with_reducible refine cw.mono ?_); rintro e w' ⟨rfl, hw⟩; (have hw' := hw.symm); subst hw'; clear hw))
    go_ret
    exact ⟨ret_int w3, rfl⟩
end
theorem mul64_one (n : Nat) (hn : n ≤ 1048576) (W : World) : Calls Tryz.prog 117 #[.int .u64 1, .int .u64 n] W fun e w' => e = .returned (.tuple #[.int .u64 0, .int .u64 n]) ∧ w' = W := by
  have h1 : bits .and .u64 (n : Int) 4294967295 = (n : Int) := by
    have := u64_and_nat n 4294967295 (by omega) (by omega)
    rw [show (4294967295 : Nat) = 2 ^ 32 - 1 from rfl, Nat.and_two_pow_sub_one_eq_mod] at this
    rw [show ((2 ^ 32 - 1 : Nat) : Int) = 4294967295 from rfl] at this
    rw [this]; omega
  have h5 : bits .and .u64 1 4294967295 = 1 := by decide
  have h6 : bits .and .u64 0 4294967295 = 0 := by decide
  have h2 : (n : Int) / 4294967296 = 0 := by omega
  have h3 : IntKind.u64.wrap (n : Int) = n := by rw [IntKind.wrap_u64]; omega
  have h4 : IntKind.u64.wrap (1 * (n : Int)) = n := by rw [IntKind.wrap_u64]; omega
  go_enter Tryz.func117, Tryz.ntmps117
  go_wp2
  go_ret2
  exact ⟨rfl, rfl⟩
theorem mul_one_c (n : Nat) (hn : n ≤ 1048576) (W : World) : Calls Tryz.prog 74 #[.int .u64 1, .int .u64 n] W fun e w' => e = .returned (.tuple #[.int .u64 0, .int .u64 n]) ∧ w' = W := by
  have cm := mul64_one n hn W
  go_enter Tryz.func74, Tryz.ntmps74
  go_wp2_with (go_at_call 117; (with_reducible refine cm.mono ?_); rintro e w' ⟨rfl, hw⟩; (have hw' := hw.symm); subst hw'; clear hw)
  go_ret2
  exact ⟨rfl, rfl⟩
end Go.Proofs.YtikgicepdalfpaaGreat.W
/- slices.Repeat of one word; package buf: blank, New. -/
namespace Go.Proofs.YtikgicepdalfpaaGreat.W
open Go.ChangeShapes Go.WideShapes Go.RowKit Go.Shelf
set_option linter.unusedVariables false
theorem nine_size (w : World) (gb : Nat) (v0 v1 v2 v3 v4 v5 v6 v7 v8 : Value) : (((((((((w.setCell ⟨gb, 0, none⟩ v0).setCell ⟨gb, 1, none⟩ v1).setCell ⟨gb, 2, none⟩ v2).setCell ⟨gb, 3, none⟩ v3).setCell ⟨gb, 4, none⟩ v4).setCell ⟨gb, 5, none⟩ v5).setCell ⟨gb, 6, none⟩ v6).setCell ⟨gb, 7, none⟩ v7).setCell ⟨gb, 8, none⟩ v8).heap.size = w.heap.size := by
  simp [World.setCell]
/-- a row of n words of which m are x, the others nought -/
def RepRow (w : World) (g m x n : Nat) : Prop := w.heap[g]? = some (.cells (List.replicate m (Value.int .u64 (x : Nat)) ++ List.replicate (n - m) (Value.int .u64 (0 : Nat))).toArray 22 (0, 0))
theorem make_rep (w : World) (x n : Nat) (hn : n ≤ 1048576) : ∃ w', (Instr.makeSlice 27 (.int .i64 (n : Int)) (.int .i64 (n : Int))).run Tryz.prog w = .ok (.slice (some ⟨w.heap.size, 0, none⟩) n n) w' ∧ RepRow w' w.heap.size 0 x n ∧ Below w.heap.size w w' ∧ w.heap.size < w'.heap.size := by
  obtain ⟨i0, hi, hz0, hz1, hz2⟩ := info_parts infoW
  obtain ⟨w', h1, h2, h3⟩ := run_makeSlice_full (P := Tryz.prog) w w.heap.size 27 22 i0 (.int .u64 0) 1 underW hi hz0 hz1 .i64 .i64 n (by omega) (by rw [hz2]; omega) (by simp [maxLen]; omega) (Nat.le_refl _)
  have e : (madeCells (Value.int .u64 0).cells (n * 1)).toList = List.replicate n (Value.int .u64 (0 : Nat)) := by
    rw [Nat.mul_one]; exact made_one _ n
  rw [e] at h2
  have hlt := (h2.lt _ rfl).2
  have hU : Upd (fun _ => False) w w' := (Upd.refl (fun _ => False) w).grown h3 (fun k e => by cases e)
  refine ⟨w', h1, ?_, hU.below (Nat.le_refl _) (fun k e => e.elim), hlt⟩
  rcases h2.2 with ⟨hv, _⟩ | ⟨g, cap, cur, hv, _, hg, _, _, hsz, htk⟩
  · cases hv
  · cases hv
    unfold RepRow
    rw [hg]
    have : cur.toList = List.replicate n (Value.int .u64 (0 : Nat)) := by
      rw [← htk, List.take_of_length_le (by rw [Array.length_toList, hsz]; exact Nat.le_refl _)]
    rw [List.replicate_zero, List.nil_append, Nat.sub_zero, ← this]
theorem rep_splice (m n c : Nat) (a b : Value) (hm : m ≤ n) (hc : c ≤ n - m) : ((List.replicate m a ++ List.replicate (n - m) b).toArray.toList.take m ++ List.replicate c a ++ (List.replicate m a ++ List.replicate (n - m) b).toArray.toList.drop (m + c)) = List.replicate (m + c) a ++ List.replicate (n - (m + c)) b := by
  rw [List.toList_toArray]
  have e1 : (List.replicate m a ++ List.replicate (n - m) b).take m = List.replicate m a := by
    rw [List.take_append_of_le_length (by simp), List.take_of_length_le (by simp)]
  have e2 : (List.replicate m a ++ List.replicate (n - m) b).drop (m + c) = List.replicate (n - (m + c)) b := by
    rw [List.drop_append, List.drop_of_length_le (by simp), List.nil_append, List.length_replicate, Nat.add_sub_cancel_left, List.drop_replicate]
    congr 1
    omega
  rw [e1, e2, List.replicate_append_replicate]
theorem copy_rep (w : World) (g m n x : Nat) (hm : m ≤ n) (hr : RepRow w g m x n) (ty : TypeId) (a : Addr) (sl sc dc c : Nat) (hcc : c = min sl (n - m)) (hsrc : ∀ j, j < c → w.cell? (a.add j) = some (.int .u64 (x : Nat))) :
    ∃ w', (Builtin.copy_ #[27, 27] ty #[.slice (some ⟨g, m, none⟩) (n - m) dc, .slice (some a) sl sc]).run Tryz.prog w = .ok (.int .i64 (c : Int)) w' ∧ RepRow w' g (m + c) x n ∧ Upd (fun k => k = g) w w' := by
  obtain ⟨i0, hi, hz0, hz1, hz2⟩ := info_parts infoW
  have hc1 : c ≤ n - m := by omega
  have hrun := run_copy_row (P := Tryz.prog) w 27 27 ty 22 g m (n - m) dc a sl sc _ 22 (List.replicate c (Value.int .u64 (x : Nat))) underW (by rw [hi]; simp [hz1]) hr (by rw [List.length_replicate]; exact hcc) (by
      intro j v hj
      rw [List.getElem?_replicate] at hj
      split at hj
      · cases hj; exact hsrc j (by assumption)
      · cases hj) (by simp; omega) (by intro v hv; rw [(List.mem_replicate.1 hv).2]; rfl)
  rw [List.length_replicate] at hrun
  refine ⟨_, hrun, ?_, ⟨rfl, rfl, rfl, by rw [size_setRow]; exact Nat.le_refl _, fun k hk hn => setRow_other w g k _ hn⟩⟩
  unfold RepRow
  rw [setRow_heap w g _ _ _ _ hr]
  rw [rep_splice m n c _ _ hm hc1]
set_option maxRecDepth 100000 in
set_option maxHeartbeats 1000000 in
theorem repeat_c (W : World) (gb cap x n : Nat) (hn : n ≤ 1048576) (hc : W.cell? ⟨gb, 0, none⟩ = some (.int .u64 (x : Nat))) :
    Calls Tryz.prog 38 #[.slice (some ⟨gb, 0, none⟩) 1 cap, .int .i64 n] W fun e w' => e = .returned (.slice (some ⟨W.heap.size, 0, none⟩) n n) ∧ Below W.heap.size W w' ∧ RepRow w' W.heap.size n x n := by
  have h1 : ¬ (n : Int) < 0 := by omega
  have h2 : IntKind.u64.wrap (n : Int) = n := by rw [IntKind.wrap_u64]; omega
  have h3 : ¬ (n : Int) > 9223372036854775807 := by omega
  have h4 : IntKind.i64.wrap (n : Int) = n := by rw [IntKind.wrap_i64]; omega
  have cm := mul_one_c n hn W
  obtain ⟨W1, hmk, hr, hB1, hl1⟩ := make_rep W x n hn
  have hgb : gb < W.heap.size := block_lt_of_cell hc
  have hc1 : W1.cell? ⟨gb, 0, none⟩ = some (.int .u64 (x : Nat)) := below_cell hB1 hc
  obtain ⟨W2, hcp, hr2, hU2⟩ := copy_rep W1 W.heap.size 0 n x (Nat.zero_le _) hr 3 ⟨gb, 0, none⟩ 1 cap n (min 1 (n - 0)) rfl (by
    intro j hj
    have : j = 0 := by omega
    subst this
    exact hc1)
  have hB2 : Below W.heap.size W W2 := hB1.trans (hU2.below hB1.size (fun k e => by rw [e]; exact Nat.le_refl _))
  rw [Nat.zero_add] at hr2
  rw [Nat.sub_zero] at hcp
  generalize hm1 : min 1 (n - 0) = m1 at *
  have HM : Hid (m1 = 1 ∨ (m1 = 0 ∧ n = 0)) := hid (by omega)
  have HM2 : Hid (m1 ≤ n) := hid (by have := HM.out; omega)
  generalize hG : W.heap.size = G at *
  clear hm1 hr hU2 hc1 hc hB1
  go_enter Tryz.func38, Tryz.ntmps38
  go_upto_region 7 with (go_at_call 74; (with_reducible refine cm.mono ?_); rintro e w' ⟨rfl, hw⟩; (have hw' := hw.symm); subst hw'; clear hw)
  go_wp2_with (at_builtin; refine Lib.wpList_copy_run _ rfl (.tmp 31) (.tmp 32) 27 27 rfl _ _ (by simp [Act.eval]) (by simp [Act.eval]) hcp ?_)
  clear hcp hmk cm
  go_loopw [8] (fun ii wr => ∃ m : Nat, m ≤ n ∧ (m = 0 → n = 0) ∧ ii = .int .i64 m ∧ Below G W wr ∧ RepRow wr G m x n) (fun ii _ => n - (intOf ii).toNat)
  case atStart => exact ⟨m1, HM2.out, fun e => by have := HM.out; omega, rfl, hB2, hr2⟩
  case round =>
    obtain ⟨m, hm, hm0, rfl, hB, hr⟩ := hrel
    clear hr2 hB2
    by_cases hlt : m < n
    · have j1 : (m : Int) < n := by omega
      go_upto_region 9 with fail
      have hmp : 0 < m := by omega
      obtain ⟨c, hcc⟩ : ∃ c, c = min m (n - m) := ⟨_, rfl⟩
      have hcl : c ≤ n - m := by omega
      have hcp : 0 < c := by omega
      obtain ⟨w', hcp', hr', hU'⟩ := copy_rep wr.drew G m n x hm hr 3 ⟨G, 0, none⟩ m n (n - m) c hcc (by
        intro j hj
        have hjm : j < m := by omega
        have e1 : ((⟨G, 0, none⟩ : Addr).add j) = ⟨G, j, none⟩ := by unfold Addr.add; split <;> simp_all
        rw [e1, cell_of_row wr.drew G j _ _ (0, 0) hr]
        rw [List.getElem?_toArray, List.getElem?_append_left (by simpa using hjm), List.getElem?_replicate, if_pos hjm])
      have hUd : Upd (fun k => k = G) wr w' := ⟨hU'.os, hU'.tape, hU'.output, hU'.size, hU'.block⟩
      have hB' : Below G W w' := hB.trans (hUd.below (by have := hB.size; omega) (fun k e => by omega))
      have g1 : (0 : Int) ≤ m := by omega
      have g2 : (m : Int) ≤ n := by omega
      have g3 : ¬ n = m := by omega
      have g4 : IntKind.i64.wrap ((m : Int) + (c : Int)) = ((m + c : Nat) : Int) := by rw [IntKind.wrap_i64]; omega
      have HR := hid hr'
      have HB := hid hB'
      have HC := hid (And.intro hcl hcp)
      clear hU' hUd hr hr' hB hB' hcc hcl hcp hm0 HM HM2
      refine wp_region_held_drew (S := fun _ => True) (by kernel_rfl) trivial ?_
      intro hS
      (refine wpAnyH_take (i := 0) (v := ?_) rfl (by kernel_rfl) (by kernel_rfl) (by kernel_rfl) (fun _ _ _ h => h) (Or.inl ⟨by rfl, ?_⟩) trivial ?_); rotate_left; (focus (intro w' hSw; go_simp; (try with_reducible rfl))); (try simp only [Act.put, List.getElem_toArray, List.getElem_cons_zero, List.setIfInBounds_toArray, List.set_cons_zero, List.set_cons_succ])
      (refine wpAnyH_take (i := 1) (v := ?_) rfl (by kernel_rfl) (by kernel_rfl) (by kernel_rfl) (fun _ _ _ h => h) (Or.inl ⟨by rfl, ?_⟩) trivial ?_); rotate_left; (focus (intro w' hSw; go_simp; (try with_reducible rfl))); (try simp only [Act.put, List.getElem_toArray, List.getElem_cons_zero, List.getElem_cons_succ, List.setIfInBounds_toArray, List.set_cons_zero, List.set_cons_succ])
      (refine wpAnyH_take (i := 2) (v := ?_) rfl (by kernel_rfl) (by kernel_rfl) (by kernel_rfl) (fun _ _ _ h => h) (Or.inl ⟨by rfl, ?_⟩) trivial ?_); rotate_left; (focus (intro w' hSw; go_simp; (try with_reducible rfl))); (try simp only [Act.put, List.getElem_toArray, List.getElem_cons_zero, List.getElem_cons_succ, List.setIfInBounds_toArray, List.set_cons_zero, List.set_cons_succ])
      (refine wpAnyH_take (i := 4) (v := ?_) rfl (by kernel_rfl) (by kernel_rfl) (by kernel_rfl) (fun _ _ _ h => h) (Or.inl ⟨by rfl, ?_⟩) trivial ?_); rotate_left; (focus (intro w' hSw; go_simp; (try with_reducible rfl))); (try simp only [Act.put, List.getElem_toArray, List.getElem_cons_zero, List.getElem_cons_succ, List.setIfInBounds_toArray, List.set_cons_zero, List.set_cons_succ])
      (refine wpAnyH_take (i := 5) (v := ?_) rfl (by kernel_rfl) (by kernel_rfl) (by kernel_rfl) (fun _ _ _ h => h) (Or.inl ⟨by rfl, ?_⟩) trivial ?_); rotate_left; (focus (intro w' hSw; go_simp; (try with_reducible rfl))); (try simp only [Act.put, List.getElem_toArray, List.getElem_cons_zero, List.getElem_cons_succ, List.setIfInBounds_toArray, List.set_cons_zero, List.set_cons_succ])
      (refine wpAnyH_take (i := 3) (v := ?_) rfl (by kernel_rfl) (by kernel_rfl) (by kernel_rfl) (fun _ _ _ h => h) (Or.inl ⟨by rfl, ?_⟩) trivial ?_); rotate_left; (focus (intro w' hSw; go_simp; (try with_reducible rfl))); (try simp only [Act.put, List.getElem_toArray, List.getElem_cons_zero, List.getElem_cons_succ, List.setIfInBounds_toArray, List.set_cons_zero, List.set_cons_succ])
      (refine wpAnyH_take (i := 6) (v := ?_) rfl (by kernel_rfl) (by kernel_rfl) (by kernel_rfl) (fun _ _ _ h => h) (Or.inl ⟨by rfl, ?_⟩) trivial ?_); rotate_left; (focus (intro w' hSw; go_simp; (try with_reducible rfl))); (try simp only [Act.put, List.getElem_toArray, List.getElem_cons_zero, List.getElem_cons_succ, List.setIfInBounds_toArray, List.set_cons_zero, List.set_cons_succ])
      refine wpAnyH_ready (rs := [7]) (by kernel_rfl) (by simp) ?_
      refine AllReadyH.cons rfl (fun K hK => ?_) AllReadyH.nil
      rw [if_pos (by rfl)]
      refine Lib.wp_copy_run _ (.tmp 41) (.tmp 44) 27 27 rfl (.slice (some ⟨G, m, none⟩) (n - m) (n - m)) (.slice (some ⟨G, 0, none⟩) m n) (by rfl) (by rfl) hcp' ?_
      refine hK.out _ _ trivial (fun _ => ?_)
      clear hK K hcp'
      (try simp only [Act.put, List.getElem_toArray, List.getElem_cons_zero, List.getElem_cons_succ, List.setIfInBounds_toArray, List.set_cons_zero, List.set_cons_succ])
      (refine wpAnyH_take (i := 8) (v := ?_) rfl (by kernel_rfl) (by kernel_rfl) (by kernel_rfl) (fun _ _ _ h => h) (Or.inl ⟨by rfl, ?_⟩) trivial ?_); rotate_left; (focus (intro w' hSw; go_simp; (try with_reducible rfl))); (try simp only [Act.put, List.getElem_toArray, List.getElem_cons_zero, List.getElem_cons_succ, List.setIfInBounds_toArray, List.set_cons_zero, List.set_cons_succ])
      (refine wpAnyH_take (i := 9) (v := ?_) rfl (by kernel_rfl) (by kernel_rfl) (by kernel_rfl) (fun _ _ _ h => h) (Or.inl ⟨by rfl, ?_⟩) trivial ?_); rotate_left; (focus (intro w' hSw; go_simp; (try with_reducible rfl))); (try simp only [Act.put, List.getElem_toArray, List.getElem_cons_zero, List.getElem_cons_succ, List.setIfInBounds_toArray, List.set_cons_zero, List.set_cons_succ])
      refine wpAnyH_done (by kernel_rfl) ?_ _
      go_wp2
      go_roundw
      case rel => exact ⟨m + c, by have := HC.out; omega, fun e => by omega, by go_num, HB.out, HR.out⟩
      case measure => show n - ((m + c : Nat) : Int).toNat < n - (m : Int).toNat; have := HC.out; omega
    · have j1 : ¬ (m : Int) < n := by omega
      have e : m = n := by omega
      subst e
      go_wp2
      go_ret
      exact ⟨rfl, hB, hr⟩
/-- nil, as a word -/
def nilN : Nat := 18444492273895866368
/-- a new buffer of noughts, or row of nils -/
def blankH (k : Int) (n : Nat) : Hc := if k = 9 then .row (List.replicate n nilN) else .buf k (List.replicate (n * elB k) 0)
theorem blank_need {k : Int} (hk : thK k) (n : Nat) : (blankH k n).need = 1 + (n * elT k + 7) / 8 := by
  unfold blankH elT
  by_cases h : k = 9
  · rw [if_pos h, if_pos h, row_need, List.length_replicate]; omega
  · rw [if_neg h, if_neg h, bufn_need, List.length_replicate]
theorem blank_row (W : World) (n : Nat) (hn : n ≤ 1048576) : Calls Tryz.prog 16 #[.int .i64 9, .int .i64 n] W fun e w' => ∃ g, e = .returned (.agg #[.int .i64 9, .bool false, .int .i64 0, .string ⟨#[]⟩, .slice none 0 0, .slice (some ⟨g, 0, none⟩) n n, .int .u64 0, .int .i64 0, .int .i64 0]) ∧ Below W.heap.size W w' ∧ WordsAt w' (.slice (some ⟨g, 0, none⟩) n n) (List.replicate n nilN) ∧ W.heap.size ≤ g ∧ g < w'.heap.size := by
  have hB1 : Below W.heap.size W (W.alloc (.cells #[.int .i64 0, .bool false, .int .i64 0, .string ⟨#[]⟩, .slice none 0 0, .slice none 0 0, .int .u64 0, .int .i64 0, .int .i64 0] 50)) := (Below.refl _ W).alloc (Nat.le_refl _) _
  have hs1 : (W.alloc (.cells #[.int .i64 0, .bool false, .int .i64 0, .string ⟨#[]⟩, .slice none 0 0, .slice none 0 0, .int .u64 0, .int .i64 0, .int .i64 0] 50)).heap.size = W.heap.size + 1 := World.size_alloc ..
  have f1 := World.alloc_heap_new W (.cells #[.int .i64 0, .bool false, .int .i64 0, .string ⟨#[]⟩, .slice none 0 0, .slice none 0 0, .int .u64 0, .int .i64 0, .int .i64 0] 50)
  have cn := fun w => fromNil_c w
  generalize hW1 : W.alloc (.cells #[.int .i64 0, .bool false, .int .i64 0, .string ⟨#[]⟩, .slice none 0 0, .slice none 0 0, .int .u64 0, .int .i64 0, .int .i64 0] 50) = W1 at *
  have hB2 : Below W1.heap.size W1 (W1.alloc (.cells #[.int .u64 18444492273895866368] 22)) := (Below.refl _ W1).alloc (Nat.le_refl _) _
  have hs2 : (W1.alloc (.cells #[.int .u64 18444492273895866368] 22)).heap.size = W.heap.size + 2 := by rw [World.size_alloc, hs1]
  have e2 : (W1.alloc (.cells #[.int .u64 18444492273895866368] 22)).cell? ⟨W1.heap.size, 0, none⟩ = some (.int .u64 (nilN : Nat)) := by rw [World.cell?_alloc_new]; rfl
  have cr := repeat_c (W1.alloc (.cells #[.int .u64 18444492273895866368] 22)) W1.heap.size 1 nilN n hn e2
  have hs3 : (W1.alloc (.cells #[.int .u64 18444492273895866368] 22)).heap.size = W1.heap.size + 1 := World.size_alloc ..
  rw [hs3] at cr
  have kp : Hid (∀ w4, Below (W1.heap.size + 1) (W1.alloc (.cells #[.int .u64 18444492273895866368] 22)) w4 → w4.heap[W.heap.size]? = some (.cells #[.int .i64 0, .bool false, .int .i64 0, .string ⟨#[]⟩, .slice none 0 0, .slice none 0 0, .int .u64 0, .int .i64 0, .int .i64 0] 50) ∧ Below W.heap.size W w4) := by
    show ∀ w4, _
    intro w4 hB4
    have := hB2.size
    exact ⟨(hB4.block _ (by omega)).trans ((hB2.block _ (by omega)).trans f1), (hB1.trans (hB2.mono hB1.size)).trans (hB4.mono (by omega))⟩
  have HS := hid hs1
  clear hB1 hs1 f1 hB2 e2 hs2 hs3
  go_enter Tryz.func16, Tryz.ntmps16
  go_wp2_with (first | (go_at_call 18; (with_reducible refine (cn _).mono ?_); rintro e w' ⟨rfl, hw⟩; (have hw' := hw.symm); subst hw'; clear hw) | (go_at_call 38; (with_reducible refine cr.mono ?_); rintro e w4 ⟨rfl, hB4, hr4⟩; clear cr; (obtain ⟨fR, hBf⟩ := kp.out w4 hB4); (have eR := fun j => cell_of_row w4 W.heap.size j _ _ _ fR); (have zR := (fun j => by simp [World.frozen?, fR] : ∀ j, w4.frozen? ⟨W.heap.size, j, none⟩ = false)); (have FR := hid fR); clear fR))
  refine bodyPost_ret (cell_ret rfl _ _ W.heap.size _ _ _ _ _ _ _ _ _ (0, 0) rfl (nine_set FR.out _ _ _ _ _ _ _ _ _)) rfl ?_
  have hz := HS.out
  have hlt : W1.heap.size + 1 < w4.heap.size := lt_get hr4
  refine ⟨_, rfl, nine_below hBf (Nat.le_refl _) _ _ _ _ _ _ _ _ _, ⟨_, n, by rw [List.length_replicate], by rw [List.length_replicate]; omega, fun x hx => by rw [(List.mem_replicate.1 hx).2]; decide, fun i hi => ⟨_, rfl, ?_⟩⟩, by omega, ?_⟩
  · have e1 : ∀ g : Nat, ((⟨g, 0, none⟩ : Addr).add i) = ⟨g, i, none⟩ := by intro g; unfold Addr.add; split <;> simp_all
    rw [List.length_replicate] at hi
    rw [e1, World.cell?_of_block (nine_far _ _ _ _ _ _ _ _ _ _ _ _ (by show W1.heap.size + 1 ≠ W.heap.size; omega)), cell_of_row w4 _ i _ _ (0, 0) hr4, List.getElem?_toArray, List.getElem?_append_left (by simpa using hi), List.getElem?_replicate, if_pos hi, List.getElem_replicate]
  · refine Nat.lt_of_lt_of_le hlt ?_
    rw [nine_size]
    exact Nat.le_refl _
set_option maxRecDepth 100000 in
theorem blank_buf (W : World) (k : Int) (hk : elB k > 0) (n : Nat) (hn : n * elB k ≤ 8388608) : Calls Tryz.prog 16 #[.int .i64 k, .int .i64 n] W fun e w' => ∃ g, e = .returned (.agg #[.int .i64 k, .bool false, .int .i64 0, .string ⟨#[]⟩, .slice (some ⟨g, 0, none⟩) (n * elB k) (n * elB k), .slice none 0 0, .int .u64 0, .int .i64 0, .int .i64 0]) ∧ Below W.heap.size W w' ∧ ByteRow w' (some ⟨g, 0, none⟩) (List.replicate (n * elB k) 0) ∧ W.heap.size ≤ g ∧ g < w'.heap.size := by
  have h9 : ¬ k = 9 := by rintro rfl; simp [elB] at hk
  have hB1 : Below W.heap.size W (W.alloc (.cells #[.int .i64 0, .bool false, .int .i64 0, .string ⟨#[]⟩, .slice none 0 0, .slice none 0 0, .int .u64 0, .int .i64 0, .int .i64 0] 50)) := (Below.refl _ W).alloc (Nat.le_refl _) _
  have hs1 : (W.alloc (.cells #[.int .i64 0, .bool false, .int .i64 0, .string ⟨#[]⟩, .slice none 0 0, .slice none 0 0, .int .u64 0, .int .i64 0, .int .i64 0] 50)).heap.size = W.heap.size + 1 := World.size_alloc ..
  have f1 := World.alloc_heap_new W (.cells #[.int .i64 0, .bool false, .int .i64 0, .string ⟨#[]⟩, .slice none 0 0, .slice none 0 0, .int .u64 0, .int .i64 0, .int .i64 0] 50)
  have cw := fun w => width_c k w
  generalize hW1 : W.alloc (.cells #[.int .i64 0, .bool false, .int .i64 0, .string ⟨#[]⟩, .slice none 0 0, .slice none 0 0, .int .u64 0, .int .i64 0, .int .i64 0] 50) = W1 at *
  obtain ⟨w4, hmk, hrow, hB4, hl4⟩ := made_bytes W1 (n * elB k) hn
  have hmul : IntKind.i64.wrap ((n : Int) * ((elB k : Nat) : Int)) = ((n * elB k : Nat) : Int) := by
    have h2 : ((n * elB k : Nat) : Int) = (n : Int) * ((elB k : Nat) : Int) := by simp
    rw [IntKind.wrap_i64, ← h2]; omega
  have hmul' : wrap64 ((n : Int) * ((elB k : Nat) : Int)) = ((n * elB k : Nat) : Int) := by
    have h2 : ((n * elB k : Nat) : Int) = (n : Int) * ((elB k : Nat) : Int) := by simp
    unfold wrap64; rw [← h2]; omega
  have fR : w4.heap[W.heap.size]? = some (.cells #[.int .i64 0, .bool false, .int .i64 0, .string ⟨#[]⟩, .slice none 0 0, .slice none 0 0, .int .u64 0, .int .i64 0, .int .i64 0] 50) := (hB4.block _ (by omega)).trans f1
  have hBf : Below W.heap.size W w4 := hB1.trans (hB4.mono hB1.size)
  have eR := fun j => cell_of_row w4 W.heap.size j _ _ _ fR
  have zR : ∀ j, w4.frozen? ⟨W.heap.size, j, none⟩ = false := fun j => by simp [World.frozen?, fR]
  have FR := hid fR
  have HB := hid hBf
  have HW := hid hrow
  have HL := hid (And.intro hs1 hl4)
  clear fR hBf hrow hl4 hs1 f1 hB1 hB4 hn hk
  generalize hN : n * elB k = N at *
  generalize ((elB k : Nat) : Int) = E at *
  go_enter Tryz.func16, Tryz.ntmps16
  go_wp2_with (go_at_call 30; (with_reducible refine (cw _).mono ?_); rintro e w' ⟨rfl, hw⟩; (have hw' := hw.symm); subst hw'; clear hw)
  refine bodyPost_ret (cell_ret rfl _ _ W.heap.size _ _ _ _ _ _ _ _ _ (0, 0) rfl (nine_set FR.out _ _ _ _ _ _ _ _ _)) rfl ?_
  have hz := HL.out
  refine ⟨_, rfl, nine_below HB.out (Nat.le_refl _) _ _ _ _ _ _ _ _ _, ?_, by omega, ?_⟩
  · rcases HW.out with h | ⟨g, p, e, h⟩
    · exact .inl h
    · cases e
      exact .inr ⟨_, _, rfl, fun i hi => by rw [World.cell?_of_block (nine_far _ _ _ _ _ _ _ _ _ _ _ _ (by show W1.heap.size ≠ W.heap.size; omega))]; exact h i hi⟩
  · refine Nat.lt_of_lt_of_le hz.2 ?_
    rw [nine_size]
    exact Nat.le_refl _
end Go.Proofs.YtikgicepdalfpaaGreat.W
/- Package buf: thing, count, element, Len. -/
namespace Go.Proofs.YtikgicepdalfpaaGreat.W
open Go.ChangeShapes Go.WideShapes Go.RowKit Go.Shelf
set_option linter.unusedVariables false
/-- a buffer, a view or a row -/
def isTh : Hc → Prop
  | .buf _ _ => True
  | .view _ _ _ _ => True
  | .row _ => True
  | _ => False
def Hc.bl : Hc → Nat
  | .buf _ b => b.length
  | _ => 0
def Hc.wl : Hc → Nat
  | .row ws => ws.length
  | _ => 0
/-- how many elements a thing has -/
def Hc.cnt : Hc → Nat
  | .buf k b => b.length / elB k
  | .view _ _ _ n => n
  | .row ws => ws.length
  | _ => 0
theorem th_kind {c : Hc} (h : isTh c) (hok : c.ok) : thK c.cl.kind := by
  cases c with
  | num i => exact h.elim
  | text b => exact h.elim
  | buf k b => exact .inr hok.1
  | view k b p n => exact .inr hok.1
  | row ws => exact .inl rfl
section
variable {W W' : World} {hb sb : Nat} {vc : Value} {T : Nat → Prop} {H : List (Option Hc)} {u h : Nat}
/-- what Get, thing and element answer of a thing -/
def ThP (W : World) (kd : Int) (vw : Bool) (bl wl : Nat) (ba fr ln : Int) (xs : List Value) (e : Ending) (w' : World) : Prop := ∃ ob bc ow wc, e = .returned (.tuple #[.agg #[.int .i64 kd, .bool vw, .int .i64 0, .string ⟨#[]⟩, .slice ob bl bc, .slice ow wl wc, .int .u64 ba, .int .i64 fr, .int .i64 ln], .int .i64 0]) ∧ Below W.heap.size W w' ∧ w'.ownsRow W.heap.size 22 1 (.slice ow wl wc) wl xs
def ThPost (W : World) (c : Hc) (e : Ending) (w' : World) : Prop := ThP W c.cl.kind c.cl.view c.bl c.wl c.cl.base c.cl.frm c.cl.len (wds c.ws) e w'
theorem get_thing (g : HLay W hb sb vc T H u h) (w : Nat) (hw : w < 18446744073709551616) (id : Nat) (hi : hit H w = some id) (c : Hc) (hc : H[id]? = some (some c)) (hth : isTh c) :
    Calls Tryz.prog 43 #[.pointer (some ⟨hb, 0, none⟩), .int .u64 w] W (ThPost W c) := by
  cases c with
  | num i => exact hth.elim
  | text b => exact hth.elim
  | buf k b =>
    refine (get_buf g w hw id hi k b hc).mono ?_
    rintro e w' ⟨gb, rfl, _, hB, _⟩
    exact ⟨_, _, none, 0, rfl, hB, World.ownsRow_nil _ _ _ _⟩
  | view k ba p n =>
    refine (get_view g w hw id hi k ba p n hc).mono ?_
    rintro e w' ⟨rfl, hB⟩
    exact ⟨none, 0, none, 0, rfl, hB, World.ownsRow_nil _ _ _ _⟩
  | row ws =>
    refine (get_row g w hw id hi ws hc).mono ?_
    rintro e w' ⟨o, cap, rfl, hB, ho⟩
    exact ⟨none, 0, o, cap, rfl, hB, ho⟩
set_option maxRecDepth 100000 in
set_option maxHeartbeats 1000000 in
theorem thing_core (w : Int) (kd : Int) (hk : thK kd) (vw : Bool) (bl wl : Nat) (ba fr ln : Int) (xs : List Value) (hget : ∀ w1, Below W.heap.size W w1 → Calls Tryz.prog 43 #[.pointer (some ⟨hb, 0, none⟩), .int .u64 w] w1 (ThP w1 kd vw bl wl ba fr ln xs)) :
    Calls Tryz.prog 44 #[.pointer (some ⟨hb, 0, none⟩), .int .u64 w] W (ThP W kd vw bl wl ba fr ln xs) := by
  have hB1 : Below W.heap.size W (W.alloc (.cells #[.int .i64 0, .bool false, .int .i64 0, .string ⟨#[]⟩, .slice none 0 0, .slice none 0 0, .int .u64 0, .int .i64 0, .int .i64 0] 50)) := (Below.refl _ W).alloc (Nat.le_refl _) _
  have hs1 : (W.alloc (.cells #[.int .i64 0, .bool false, .int .i64 0, .string ⟨#[]⟩, .slice none 0 0, .slice none 0 0, .int .u64 0, .int .i64 0, .int .i64 0] 50)).heap.size = W.heap.size + 1 := World.size_alloc ..
  have f1 := World.alloc_heap_new W (.cells #[.int .i64 0, .bool false, .int .i64 0, .string ⟨#[]⟩, .slice none 0 0, .slice none 0 0, .int .u64 0, .int .i64 0, .int .i64 0] 50)
  have cg := hget _ hB1
  have ci := fun w => isThing_c kd hk w
  clear hget hk
  generalize hW1 : W.alloc (.cells #[.int .i64 0, .bool false, .int .i64 0, .string ⟨#[]⟩, .slice none 0 0, .slice none 0 0, .int .u64 0, .int .i64 0, .int .i64 0] 50) = W1 at *
  go_enter Tryz.func44, Tryz.ntmps44
  go_upto_region 1 with fail
  clear hW1
  go_upto_region 2 with (go_at_call 43; (with_reducible refine cg.mono ?_); rintro e w2 ⟨ob, bc, ow, wc, rfl, hB2, ho⟩; clear cg)
  have hB3 : Below w2.heap.size w2 (w2.alloc (.cells #[.int .i64 kd, .bool vw, .int .i64 0, .string ⟨#[]⟩, .slice ob bl bc, .slice ow wl wc, .int .u64 ba, .int .i64 fr, .int .i64 ln] 50)) := (Below.refl _ w2).alloc (Nat.le_refl _) _
  have e3 := World.cell?_alloc_new w2 #[.int .i64 kd, .bool vw, .int .i64 0, .string ⟨#[]⟩, .slice ob bl bc, .slice ow wl wc, .int .u64 ba, .int .i64 fr, .int .i64 ln] 50
  have z2 := hB2.size
  have f3 : (w2.alloc (.cells #[.int .i64 kd, .bool vw, .int .i64 0, .string ⟨#[]⟩, .slice ob bl bc, .slice ow wl wc, .int .u64 ba, .int .i64 fr, .int .i64 ln] 50)).heap[W.heap.size]? = some (.cells #[.int .i64 0, .bool false, .int .i64 0, .string ⟨#[]⟩, .slice none 0 0, .slice none 0 0, .int .u64 0, .int .i64 0, .int .i64 0] 50) := (hB3.block W.heap.size (by omega)).trans ((hB2.block _ (by omega)).trans f1)
  have ho3 := owns_on ho (fun k e => hB3.block k (ho.lt k e).2)
  have hbel : Below W.heap.size W (w2.alloc (.cells #[.int .i64 kd, .bool vw, .int .i64 0, .string ⟨#[]⟩, .slice ob bl bc, .slice ow wl wc, .int .u64 ba, .int .i64 fr, .int .i64 ln] 50)) := (hB1.trans (hB2.mono hB1.size)).trans (hB3.mono (by have := hB1.size; omega))
  have hge : ∀ q, (Value.slice ow wl wc).ownBlock = some q → W.heap.size + 1 ≤ q := fun q e => by have := (ho.lt q e).1; omega
  generalize w2.alloc (.cells #[.int .i64 kd, .bool vw, .int .i64 0, .string ⟨#[]⟩, .slice ob bl bc, .slice ow wl wc, .int .u64 ba, .int .i64 fr, .int .i64 ln] 50) = w3 at *
  have eR := fun j => cell_of_row w3 W.heap.size j _ _ _ f3
  have zR : ∀ j, w3.frozen? ⟨W.heap.size, j, none⟩ = false := fun j => by simp [World.frozen?, f3]
  have FR := hid f3
  have HO := hid ho3
  have HB := hid hbel
  have HG := hid hge
  clear ho ho3 hbel hge f3 hB2 hB3 hB1 hs1 z2 f1
  go_wp2_with (go_at_call 13; (with_reducible refine (ci _).mono ?_); rintro e w' ⟨rfl, hw⟩; (have hw' := hw.symm); subst hw'; clear hw)
  refine bodyPost_ret (cell_ret2 rfl _ _ W.heap.size _ _ _ _ _ _ _ _ _ (0, 0) rfl (nine_set FR.out _ _ _ _ _ _ _ _ _)) rfl ?_
  refine ⟨ob, bc, ow, wc, rfl, nine_below HB.out (Nat.le_refl _) _ _ _ _ _ _ _ _ _, ?_⟩
  refine owns_on (owns_base HO.out (fun q e => by have := HG.out q e; omega)) (fun q e => ?_)
  exact nine_far _ _ _ _ _ _ _ _ _ _ _ q (by have := HG.out q e; omega)
theorem thing_c (g : HLay W hb sb vc T H u h) (w : Nat) (hw : w < 18446744073709551616) (id : Nat) (hi : hit H w = some id) (c : Hc) (hc : H[id]? = some (some c)) (hth : isTh c) :
    Calls Tryz.prog 44 #[.pointer (some ⟨hb, 0, none⟩), .int .u64 w] W (ThPost W c) :=
  thing_core w c.cl.kind (th_kind hth (g.ok id c hc)) c.cl.view c.bl c.wl c.cl.base c.cl.frm c.cl.len (wds c.ws) (fun w1 hB => get_thing (g.below hB) w hw id hi c hc hth)
theorem count_core (kd : Int) (vw : Bool) (ob ow : Option Addr) (bl bc wl wc : Nat) (ba fr ln : Int) (W : World) (m : Nat) (hm : (kd = 9 ∧ m = wl) ∨ (¬ kd = 9 ∧ vw = true ∧ ln = m) ∨ (¬ kd = 9 ∧ vw = false ∧ elB kd > 0 ∧ m = bl / elB kd ∧ bl ≤ 8388608)) :
    Calls Tryz.prog 45 #[.agg #[.int .i64 kd, .bool vw, .int .i64 0, .string ⟨#[]⟩, .slice ob bl bc, .slice ow wl wc, .int .u64 ba, .int .i64 fr, .int .i64 ln]] W fun e w' => e = .returned (.int .i64 (m : Nat)) ∧ Below W.heap.size W w' := by
  have hB : Below W.heap.size W (W.alloc (.cells #[.int .i64 kd, .bool vw, .int .i64 0, .string ⟨#[]⟩, .slice ob bl bc, .slice ow wl wc, .int .u64 ba, .int .i64 fr, .int .i64 ln] 50)) := (Below.refl _ W).alloc (Nat.le_refl _) _
  have e1 := World.cell?_alloc_new W #[.int .i64 kd, .bool vw, .int .i64 0, .string ⟨#[]⟩, .slice ob bl bc, .slice ow wl wc, .int .u64 ba, .int .i64 fr, .int .i64 ln] 50
  rcases hm with ⟨rfl, rfl⟩ | ⟨h9, rfl, rfl⟩ | ⟨h9, rfl, hk, hm, hl⟩
  · go_enter Tryz.func45, Tryz.ntmps45
    go_wp2
    go_ret
    exact ⟨rfl, hB⟩
  · go_enter Tryz.func45, Tryz.ntmps45
    go_wp2
    go_ret
    exact ⟨rfl, hB⟩
  · have cw := fun w => width_c kd w
    have e0 : ¬ ((elB kd : Nat) : Int) = 0 := by omega
    have hd : Int.tdiv (bl : Int) ((elB kd : Nat) : Int) = (m : Nat) := by rw [Int.tdiv_eq_ediv_of_nonneg (by omega), hm]; omega
    have hmb : m ≤ 8388608 := by rw [hm]; have := Nat.div_le_self bl (elB kd); omega
    have hw3 : wrap64 ((m : Nat) : Int) = (m : Nat) := by unfold wrap64; omega
    generalize ((elB kd : Nat) : Int) = E at *
    clear hm hk hl hmb
    go_enter Tryz.func45, Tryz.ntmps45
    go_upto_region 5 with fail
    go_quiet ((go_at_call 30; exact Calls.quiet_of_same (cw _)))
    go_wp2
    go_ret
    exact ⟨ret_int hw3, ⟨hB.os, hB.tape, hB.output, hB.size, hB.block⟩⟩
theorem count_c (c : Hc) (hth : isTh c) (hok : c.ok) (ob ow : Option Addr) (bc wc : Nat) (W : World) :
    Calls Tryz.prog 45 #[.agg #[.int .i64 c.cl.kind, .bool c.cl.view, .int .i64 0, .string ⟨#[]⟩, .slice ob c.bl bc, .slice ow c.wl wc, .int .u64 c.cl.base, .int .i64 c.cl.frm, .int .i64 c.cl.len]] W fun e w' => e = .returned (.int .i64 (c.cnt : Nat)) ∧ Below W.heap.size W w' := by
  refine count_core c.cl.kind c.cl.view ob ow c.bl bc c.wl wc c.cl.base c.cl.frm c.cl.len W c.cnt ?_
  have n9 : ∀ k : Int, elB k > 0 → ¬ k = 9 := by rintro k h rfl; simp [elB] at h
  cases c with
  | num i => exact hth.elim
  | text b => exact hth.elim
  | buf k b => exact .inr (.inr ⟨n9 k hok.1, rfl, hok.1, rfl, hok.2.2⟩)
  | view k b p n => exact .inr (.inl ⟨n9 k hok.1, rfl, rfl⟩)
  | row ws => exact .inl ⟨rfl, rfl⟩
end
end Go.Proofs.YtikgicepdalfpaaGreat.W
/- Package buf: the pairs: raw, octets and shorts, doubles and narrows. -/
namespace Go.Proofs.YtikgicepdalfpaaGreat.W
open Go.ChangeShapes Go.WideShapes Go.RowKit Go.Shelf
set_option linter.unusedVariables false
/-- the boxes of raw's two functions -/
structure RawAt (W : World) (Bh Bx Bd hb w wd : Nat) : Prop where
  h : Boxed W Bh 23 (.pointer (some ⟨hb, 0, none⟩))
  x : Boxed W Bx 22 (.int .u64 (w : Nat))
  d : Boxed W Bd 3 (.int .i64 (wd : Nat))
/-- the boxes of a pair -/
structure PairAt (W : World) (Br Bw hb w wd : Nat) : Prop where
  ex : ∃ Bh Bx Bd, RawAt W Bh Bx Bd hb w wd ∧ Boxed W Br 62 (.func (.func 120) #[] #[.pointer (some ⟨Bh, 0, none⟩), .pointer (some ⟨Bx, 0, none⟩), .pointer (some ⟨Bd, 0, none⟩)]) ∧ Boxed W Bw 126 (.func (.func 122) #[] #[.pointer (some ⟨Bh, 0, none⟩), .pointer (some ⟨Bx, 0, none⟩), .pointer (some ⟨Bd, 0, none⟩)])
theorem RawAt.below {W W' : World} {Bh Bx Bd hb w wd : Nat} (r : RawAt W Bh Bx Bd hb w wd) (hB : Below W.heap.size W W') : RawAt W' Bh Bx Bd hb w wd :=
  ⟨box_of (hB.block _ r.h.lt) r.h, box_of (hB.block _ r.x.lt) r.x, box_of (hB.block _ r.d.lt) r.d⟩
theorem PairAt.below {W W' : World} {Br Bw hb w wd : Nat} (r : PairAt W Br Bw hb w wd) (hB : Below W.heap.size W W') : PairAt W' Br Bw hb w wd := by
  obtain ⟨Bh, Bx, Bd, h1, h2, h3⟩ := r.ex
  exact ⟨Bh, Bx, Bd, h1.below hB, box_of (hB.block _ h2.lt) h2, box_of (hB.block _ h3.lt) h3⟩
theorem raw_c (W : World) (hb w wd : Nat) : Calls Tryz.prog 83 #[.pointer (some ⟨hb, 0, none⟩), .int .u64 (w : Nat), .int .i64 (wd : Nat)] W fun e w' => ∃ Bh Bx Bd, e = .returned (.tuple #[(.func (.func 120) #[] #[.pointer (some ⟨Bh, 0, none⟩), .pointer (some ⟨Bx, 0, none⟩), .pointer (some ⟨Bd, 0, none⟩)]), (.func (.func 122) #[] #[.pointer (some ⟨Bh, 0, none⟩), .pointer (some ⟨Bx, 0, none⟩), .pointer (some ⟨Bd, 0, none⟩)])]) ∧ Below W.heap.size W w' ∧ RawAt w' Bh Bx Bd hb w wd := by
  have b1 : Below W.heap.size W (W.alloc (.cells #[.pointer (some ⟨hb, 0, none⟩)] 23)) := (Below.refl _ W).alloc (Nat.le_refl _) _
  have s1 : (W.alloc (.cells #[.pointer (some ⟨hb, 0, none⟩)] 23)).heap.size = W.heap.size + 1 := World.size_alloc ..
  have x1 := Boxed.new W 23 (.pointer (some ⟨hb, 0, none⟩))
  generalize hW1 : W.alloc (.cells #[.pointer (some ⟨hb, 0, none⟩)] 23) = W1 at *
  have b2 : Below W1.heap.size W1 (W1.alloc (.cells #[.int .u64 (w : Nat)] 22)) := (Below.refl _ W1).alloc (Nat.le_refl _) _
  have s2 : (W1.alloc (.cells #[.int .u64 (w : Nat)] 22)).heap.size = W.heap.size + 2 := by rw [World.size_alloc, s1]
  have x2 := Boxed.new W1 22 (.int .u64 (w : Nat))
  generalize hW2 : W1.alloc (.cells #[.int .u64 (w : Nat)] 22) = W2 at *
  have b3 : Below W2.heap.size W2 (W2.alloc (.cells #[.int .i64 (wd : Nat)] 3)) := (Below.refl _ W2).alloc (Nat.le_refl _) _
  have x3 := Boxed.new W2 3 (.int .i64 (wd : Nat))
  have fin : Hid (Below W.heap.size W (W2.alloc (.cells #[.int .i64 (wd : Nat)] 3)) ∧ RawAt (W2.alloc (.cells #[.int .i64 (wd : Nat)] 3)) W.heap.size (W.heap.size + 1) (W.heap.size + 1 + 1) hb w wd) := by
    have z1 := b1.size
    have z2 := b2.size
    refine ⟨(b1.trans (b2.mono z1)).trans (b3.mono (by omega)), box_of (b3.block _ (by omega)) (box_of (b2.block _ (by omega)) x1), ?_, ?_⟩
    · rw [s1] at x2; exact box_of (b3.block _ (by omega)) x2
    · rw [s2] at x3; exact x3
  rw [← hW2, ← hW1] at fin
  clear x1 x2 x3 b1 b2 b3 s1 s2 hW1 hW2
  go_enter Tryz.func83, Tryz.ntmps83
  go_wp2
  go_ret2
  exact ⟨_, _, _, rfl, fin.out.1, fin.out.2⟩
theorem pairT : (Tryz.prog.underlying 65).map (fun d => match d with | .struct _ | .array _ _ => true | _ => false) = some true := by kernel_rfl
theorem pairSz : (Tryz.prog.info? 65).map (·.size) = some 2 := by kernel_rfl
theorem pair_ret {fn : Func} {p : Tmp} (h : fn.results = #[.cell p 65]) (tmps : Array Value) (w : World) (gb : Nat) (v0 v1 : Value) (fr : Nat × Nat) (hp : tmps.getD p undef = .pointer (some ⟨gb, 0, none⟩)) (hg : w.heap[gb]? = some (.cells #[v0, v1] 65 fr)) : (results fn tmps).run Tryz.prog w = .ok (.agg #[v0, v1]) w := by
  have ht := pairT
  cases hu : Tryz.prog.underlying 65 with
  | none => rw [hu] at ht; cases ht
  | some d =>
    rw [hu] at ht
    simp only [Option.map_some, Option.some.injEq] at ht
    refine results_cell_row h tmps w gb _ _ fr d hp hg hu ?_ (by rw [pairSz]; rfl)
    cases d <;> first | rfl | exact ht
theorem two_set {w : World} {gb : Nat} {z0 z1 : Value} {t : TypeId} (hg : w.heap[gb]? = some (.cells #[z0, z1] t (0, 0))) (v0 v1 : Value) : ((w.setCell ⟨gb, 0, none⟩ v0).setCell ⟨gb, 1, none⟩ v1).heap[gb]? = some (.cells #[v0, v1] t (0, 0)) := by
  have h0 : w.heap[gb]? = some (.cells [z0, z1].toArray t (0, 0)) := hg
  exact heap_set (heap_set h0 0 v0) 1 v1
theorem two_below {w a : World} {gb B : Nat} (h : Below B a w) (hB : B ≤ gb) (v0 v1 : Value) : Below B a ((w.setCell ⟨gb, 0, none⟩ v0).setCell ⟨gb, 1, none⟩ v1) := (h.setCell (p := ⟨gb, 0, none⟩) hB v0).setCell (p := ⟨gb, 1, none⟩) hB v1
theorem two_far (w : World) (gb : Nat) (v0 v1 : Value) (k : Nat) (h : k ≠ gb) : ((w.setCell ⟨gb, 0, none⟩ v0).setCell ⟨gb, 1, none⟩ v1).heap[k]? = w.heap[k]? := by
  rw [Below.heap_setCell _ _ _ _ h, Below.heap_setCell _ _ _ _ h]
theorem octets_c (W : World) (hb w : Nat) : Calls Tryz.prog 54 #[.pointer (some ⟨hb, 0, none⟩), .int .u64 (w : Nat)] W fun e w' => ∃ Br Bw, e = .returned (.agg #[.func (.func 95) #[] #[.pointer (some ⟨Br, 0, none⟩)], .func (.func 96) #[] #[.pointer (some ⟨Bw, 0, none⟩)]]) ∧ Below W.heap.size W w' ∧ PairAt w' Br Bw hb w 1 := by
  have hB1 : Below W.heap.size W (W.alloc (.cells #[.nilFunc, .nilFunc] 65)) := (Below.refl _ W).alloc (Nat.le_refl _) _
  have hs1 : (W.alloc (.cells #[.nilFunc, .nilFunc] 65)).heap.size = W.heap.size + 1 := World.size_alloc ..
  have f1 := World.alloc_heap_new W (.cells #[.nilFunc, .nilFunc] 65)
  have cw := fun w => width_c 8 w
  rw [show ((elB 8 : Nat) : Int) = 1 from rfl] at cw
  have cr := fun W => raw_c W hb w 1
  rw [show ((1 : Nat) : Int) = 1 from rfl] at cr
  generalize hW1 : W.alloc (.cells #[.nilFunc, .nilFunc] 65) = W1 at *
  go_enter Tryz.func54, Tryz.ntmps54
  go_upto_region 2 with (first | (go_at_call 30; (with_reducible refine (cw _).mono ?_); rintro e w' ⟨rfl, hw⟩; (have hw' := hw.symm); subst hw'; clear hw) | (go_at_call 83; (with_reducible refine (cr _).mono ?_); rintro e w2 ⟨Bh, Bx, Bd, rfl, hB2, hR2⟩))
  have b3 : Below w2.heap.size w2 (w2.alloc (.cells #[(.func (.func 120) #[] #[.pointer (some ⟨Bh, 0, none⟩), .pointer (some ⟨Bx, 0, none⟩), .pointer (some ⟨Bd, 0, none⟩)])] 62)) := (Below.refl _ w2).alloc (Nat.le_refl _) _
  have s3 : (w2.alloc (.cells #[(.func (.func 120) #[] #[.pointer (some ⟨Bh, 0, none⟩), .pointer (some ⟨Bx, 0, none⟩), .pointer (some ⟨Bd, 0, none⟩)])] 62)).heap.size = w2.heap.size + 1 := World.size_alloc ..
  have x3 := Boxed.new w2 62 (.func (.func 120) #[] #[.pointer (some ⟨Bh, 0, none⟩), .pointer (some ⟨Bx, 0, none⟩), .pointer (some ⟨Bd, 0, none⟩)])
  have hR3 := hR2.below b3
  generalize w2.alloc (.cells #[(.func (.func 120) #[] #[.pointer (some ⟨Bh, 0, none⟩), .pointer (some ⟨Bx, 0, none⟩), .pointer (some ⟨Bd, 0, none⟩)])] 62) = w3 at *
  have b4 : Below w3.heap.size w3 (w3.alloc (.cells #[(.func (.func 122) #[] #[.pointer (some ⟨Bh, 0, none⟩), .pointer (some ⟨Bx, 0, none⟩), .pointer (some ⟨Bd, 0, none⟩)])] 126)) := (Below.refl _ w3).alloc (Nat.le_refl _) _
  have x4 := Boxed.new w3 126 (.func (.func 122) #[] #[.pointer (some ⟨Bh, 0, none⟩), .pointer (some ⟨Bx, 0, none⟩), .pointer (some ⟨Bd, 0, none⟩)])
  rw [s3] at x4
  have hR4 := hR3.below b4
  have x34 := box_of (b4.block _ x3.lt) x3
  generalize w3.alloc (.cells #[(.func (.func 122) #[] #[.pointer (some ⟨Bh, 0, none⟩), .pointer (some ⟨Bx, 0, none⟩), .pointer (some ⟨Bd, 0, none⟩)])] 126) = w4 at *
  have z2 := hB2.size
  have z3 := b3.size
  have f4 : w4.heap[W.heap.size]? = some (.cells #[.nilFunc, .nilFunc] 65) := (b4.block W.heap.size (by omega)).trans ((b3.block _ (by omega)).trans ((hB2.block _ (by omega)).trans f1))
  have hbel : Below W.heap.size W w4 := ((hB1.trans (hB2.mono hB1.size)).trans (b3.mono (by omega))).trans (b4.mono (by omega))
  have eR := fun j => cell_of_row w4 W.heap.size j _ _ _ f4
  have zR : ∀ j, w4.frozen? ⟨W.heap.size, j, none⟩ = false := fun j => by simp [World.frozen?, f4]
  have n1 : w2.heap.size ≠ W.heap.size := by omega
  have n2 : w2.heap.size + 1 ≠ W.heap.size := by omega
  have n3 : Bh ≠ W.heap.size ∧ Bx ≠ W.heap.size ∧ Bd ≠ W.heap.size := by
    refine ⟨fun e => ?_, fun e => ?_, fun e => ?_⟩
    · have := hR4.h; rw [e] at this; unfold Boxed at this; rw [f4] at this; simp at this
    · have := hR4.x; rw [e] at this; unfold Boxed at this; rw [f4] at this; simp at this
    · have := hR4.d; rw [e] at this; unfold Boxed at this; rw [f4] at this; simp at this
  have FR := hid f4
  have HB := hid hbel
  have HR := hid hR4
  have X3 := hid x34
  have X4 := hid x4
  have NN := hid (And.intro n1 (And.intro n2 n3))
  clear f4 hbel hR4 x34 x4 x3 hR3 hR2 b3 b4 hB2 s3 z2 z3 n1 n2 n3 f1 hs1 hB1
  go_wp2
  refine bodyPost_ret (pair_ret rfl _ _ W.heap.size _ _ (0, 0) rfl (two_set FR.out _ _)) rfl ?_
  refine ⟨_, _, rfl, two_below HB.out (Nat.le_refl _) _ _, Bh, Bx, Bd, ⟨?_, ?_, ?_⟩, ?_, ?_⟩
  · exact box_of (two_far _ _ _ _ _ NN.out.2.2.1) HR.out.h
  · exact box_of (two_far _ _ _ _ _ NN.out.2.2.2.1) HR.out.x
  · exact box_of (two_far _ _ _ _ _ NN.out.2.2.2.2) HR.out.d
  · exact box_of (two_far _ _ _ _ _ NN.out.1) X3.out
  · exact box_of (two_far _ _ _ _ _ NN.out.2.1) X4.out
theorem shorts_c (W : World) (hb w : Nat) : Calls Tryz.prog 53 #[.pointer (some ⟨hb, 0, none⟩), .int .u64 (w : Nat)] W fun e w' => ∃ Br Bw, e = .returned (.agg #[.func (.func 91) #[] #[.pointer (some ⟨Br, 0, none⟩)], .func (.func 93) #[] #[.pointer (some ⟨Bw, 0, none⟩)]]) ∧ Below W.heap.size W w' ∧ PairAt w' Br Bw hb w 2 := by
  have hB1 : Below W.heap.size W (W.alloc (.cells #[.nilFunc, .nilFunc] 65)) := (Below.refl _ W).alloc (Nat.le_refl _) _
  have hs1 : (W.alloc (.cells #[.nilFunc, .nilFunc] 65)).heap.size = W.heap.size + 1 := World.size_alloc ..
  have f1 := World.alloc_heap_new W (.cells #[.nilFunc, .nilFunc] 65)
  have cw := fun w => width_c 7 w
  rw [show ((elB 7 : Nat) : Int) = 2 from rfl] at cw
  have cr := fun W => raw_c W hb w 2
  rw [show ((2 : Nat) : Int) = 2 from rfl] at cr
  generalize hW1 : W.alloc (.cells #[.nilFunc, .nilFunc] 65) = W1 at *
  go_enter Tryz.func53, Tryz.ntmps53
  go_upto_region 2 with (first | (go_at_call 30; (with_reducible refine (cw _).mono ?_); rintro e w' ⟨rfl, hw⟩; (have hw' := hw.symm); subst hw'; clear hw) | (go_at_call 83; (with_reducible refine (cr _).mono ?_); rintro e w2 ⟨Bh, Bx, Bd, rfl, hB2, hR2⟩))
  have b3 : Below w2.heap.size w2 (w2.alloc (.cells #[(.func (.func 120) #[] #[.pointer (some ⟨Bh, 0, none⟩), .pointer (some ⟨Bx, 0, none⟩), .pointer (some ⟨Bd, 0, none⟩)])] 62)) := (Below.refl _ w2).alloc (Nat.le_refl _) _
  have s3 : (w2.alloc (.cells #[(.func (.func 120) #[] #[.pointer (some ⟨Bh, 0, none⟩), .pointer (some ⟨Bx, 0, none⟩), .pointer (some ⟨Bd, 0, none⟩)])] 62)).heap.size = w2.heap.size + 1 := World.size_alloc ..
  have x3 := Boxed.new w2 62 (.func (.func 120) #[] #[.pointer (some ⟨Bh, 0, none⟩), .pointer (some ⟨Bx, 0, none⟩), .pointer (some ⟨Bd, 0, none⟩)])
  have hR3 := hR2.below b3
  generalize w2.alloc (.cells #[(.func (.func 120) #[] #[.pointer (some ⟨Bh, 0, none⟩), .pointer (some ⟨Bx, 0, none⟩), .pointer (some ⟨Bd, 0, none⟩)])] 62) = w3 at *
  have b4 : Below w3.heap.size w3 (w3.alloc (.cells #[(.func (.func 122) #[] #[.pointer (some ⟨Bh, 0, none⟩), .pointer (some ⟨Bx, 0, none⟩), .pointer (some ⟨Bd, 0, none⟩)])] 126)) := (Below.refl _ w3).alloc (Nat.le_refl _) _
  have x4 := Boxed.new w3 126 (.func (.func 122) #[] #[.pointer (some ⟨Bh, 0, none⟩), .pointer (some ⟨Bx, 0, none⟩), .pointer (some ⟨Bd, 0, none⟩)])
  rw [s3] at x4
  have hR4 := hR3.below b4
  have x34 := box_of (b4.block _ x3.lt) x3
  generalize w3.alloc (.cells #[(.func (.func 122) #[] #[.pointer (some ⟨Bh, 0, none⟩), .pointer (some ⟨Bx, 0, none⟩), .pointer (some ⟨Bd, 0, none⟩)])] 126) = w4 at *
  have z2 := hB2.size
  have z3 := b3.size
  have f4 : w4.heap[W.heap.size]? = some (.cells #[.nilFunc, .nilFunc] 65) := (b4.block W.heap.size (by omega)).trans ((b3.block _ (by omega)).trans ((hB2.block _ (by omega)).trans f1))
  have hbel : Below W.heap.size W w4 := ((hB1.trans (hB2.mono hB1.size)).trans (b3.mono (by omega))).trans (b4.mono (by omega))
  have eR := fun j => cell_of_row w4 W.heap.size j _ _ _ f4
  have zR : ∀ j, w4.frozen? ⟨W.heap.size, j, none⟩ = false := fun j => by simp [World.frozen?, f4]
  have n1 : w2.heap.size ≠ W.heap.size := by omega
  have n2 : w2.heap.size + 1 ≠ W.heap.size := by omega
  have n3 : Bh ≠ W.heap.size ∧ Bx ≠ W.heap.size ∧ Bd ≠ W.heap.size := by
    refine ⟨fun e => ?_, fun e => ?_, fun e => ?_⟩
    · have := hR4.h; rw [e] at this; unfold Boxed at this; rw [f4] at this; simp at this
    · have := hR4.x; rw [e] at this; unfold Boxed at this; rw [f4] at this; simp at this
    · have := hR4.d; rw [e] at this; unfold Boxed at this; rw [f4] at this; simp at this
  have FR := hid f4
  have HB := hid hbel
  have HR := hid hR4
  have X3 := hid x34
  have X4 := hid x4
  have NN := hid (And.intro n1 (And.intro n2 n3))
  clear f4 hbel hR4 x34 x4 x3 hR3 hR2 b3 b4 hB2 s3 z2 z3 n1 n2 n3 f1 hs1 hB1
  go_wp2
  refine bodyPost_ret (pair_ret rfl _ _ W.heap.size _ _ (0, 0) rfl (two_set FR.out _ _)) rfl ?_
  refine ⟨_, _, rfl, two_below HB.out (Nat.le_refl _) _ _, Bh, Bx, Bd, ⟨?_, ?_, ?_⟩, ?_, ?_⟩
  · exact box_of (two_far _ _ _ _ _ NN.out.2.2.1) HR.out.h
  · exact box_of (two_far _ _ _ _ _ NN.out.2.2.2.1) HR.out.x
  · exact box_of (two_far _ _ _ _ _ NN.out.2.2.2.2) HR.out.d
  · exact box_of (two_far _ _ _ _ _ NN.out.1) X3.out
  · exact box_of (two_far _ _ _ _ _ NN.out.2.1) X4.out
theorem doubles_c (W : World) (hb w : Nat) : Calls Tryz.prog 51 #[.pointer (some ⟨hb, 0, none⟩), .int .u64 (w : Nat)] W fun e w' => ∃ Br Bw, e = .returned (.agg #[.func (.func 84) #[] #[.pointer (some ⟨Br, 0, none⟩)], .func (.func 85) #[] #[.pointer (some ⟨Bw, 0, none⟩)]]) ∧ Below W.heap.size W w' ∧ PairAt w' Br Bw hb w 8 := by
  have hB1 : Below W.heap.size W (W.alloc (.cells #[.nilFunc, .nilFunc] 65)) := (Below.refl _ W).alloc (Nat.le_refl _) _
  have hs1 : (W.alloc (.cells #[.nilFunc, .nilFunc] 65)).heap.size = W.heap.size + 1 := World.size_alloc ..
  have f1 := World.alloc_heap_new W (.cells #[.nilFunc, .nilFunc] 65)
  have cw := fun w => width_c 5 w
  rw [show ((elB 5 : Nat) : Int) = 8 from rfl] at cw
  have cr := fun W => raw_c W hb w 8
  rw [show ((8 : Nat) : Int) = 8 from rfl] at cr
  generalize hW1 : W.alloc (.cells #[.nilFunc, .nilFunc] 65) = W1 at *
  go_enter Tryz.func51, Tryz.ntmps51
  go_upto_region 2 with (first | (go_at_call 30; (with_reducible refine (cw _).mono ?_); rintro e w' ⟨rfl, hw⟩; (have hw' := hw.symm); subst hw'; clear hw) | (go_at_call 83; (with_reducible refine (cr _).mono ?_); rintro e w2 ⟨Bh, Bx, Bd, rfl, hB2, hR2⟩))
  have b3 : Below w2.heap.size w2 (w2.alloc (.cells #[(.func (.func 120) #[] #[.pointer (some ⟨Bh, 0, none⟩), .pointer (some ⟨Bx, 0, none⟩), .pointer (some ⟨Bd, 0, none⟩)])] 62)) := (Below.refl _ w2).alloc (Nat.le_refl _) _
  have s3 : (w2.alloc (.cells #[(.func (.func 120) #[] #[.pointer (some ⟨Bh, 0, none⟩), .pointer (some ⟨Bx, 0, none⟩), .pointer (some ⟨Bd, 0, none⟩)])] 62)).heap.size = w2.heap.size + 1 := World.size_alloc ..
  have x3 := Boxed.new w2 62 (.func (.func 120) #[] #[.pointer (some ⟨Bh, 0, none⟩), .pointer (some ⟨Bx, 0, none⟩), .pointer (some ⟨Bd, 0, none⟩)])
  have hR3 := hR2.below b3
  generalize w2.alloc (.cells #[(.func (.func 120) #[] #[.pointer (some ⟨Bh, 0, none⟩), .pointer (some ⟨Bx, 0, none⟩), .pointer (some ⟨Bd, 0, none⟩)])] 62) = w3 at *
  have b4 : Below w3.heap.size w3 (w3.alloc (.cells #[(.func (.func 122) #[] #[.pointer (some ⟨Bh, 0, none⟩), .pointer (some ⟨Bx, 0, none⟩), .pointer (some ⟨Bd, 0, none⟩)])] 126)) := (Below.refl _ w3).alloc (Nat.le_refl _) _
  have x4 := Boxed.new w3 126 (.func (.func 122) #[] #[.pointer (some ⟨Bh, 0, none⟩), .pointer (some ⟨Bx, 0, none⟩), .pointer (some ⟨Bd, 0, none⟩)])
  rw [s3] at x4
  have hR4 := hR3.below b4
  have x34 := box_of (b4.block _ x3.lt) x3
  generalize w3.alloc (.cells #[(.func (.func 122) #[] #[.pointer (some ⟨Bh, 0, none⟩), .pointer (some ⟨Bx, 0, none⟩), .pointer (some ⟨Bd, 0, none⟩)])] 126) = w4 at *
  have z2 := hB2.size
  have z3 := b3.size
  have f4 : w4.heap[W.heap.size]? = some (.cells #[.nilFunc, .nilFunc] 65) := (b4.block W.heap.size (by omega)).trans ((b3.block _ (by omega)).trans ((hB2.block _ (by omega)).trans f1))
  have hbel : Below W.heap.size W w4 := ((hB1.trans (hB2.mono hB1.size)).trans (b3.mono (by omega))).trans (b4.mono (by omega))
  have eR := fun j => cell_of_row w4 W.heap.size j _ _ _ f4
  have zR : ∀ j, w4.frozen? ⟨W.heap.size, j, none⟩ = false := fun j => by simp [World.frozen?, f4]
  have n1 : w2.heap.size ≠ W.heap.size := by omega
  have n2 : w2.heap.size + 1 ≠ W.heap.size := by omega
  have n3 : Bh ≠ W.heap.size ∧ Bx ≠ W.heap.size ∧ Bd ≠ W.heap.size := by
    refine ⟨fun e => ?_, fun e => ?_, fun e => ?_⟩
    · have := hR4.h; rw [e] at this; unfold Boxed at this; rw [f4] at this; simp at this
    · have := hR4.x; rw [e] at this; unfold Boxed at this; rw [f4] at this; simp at this
    · have := hR4.d; rw [e] at this; unfold Boxed at this; rw [f4] at this; simp at this
  have FR := hid f4
  have HB := hid hbel
  have HR := hid hR4
  have X3 := hid x34
  have X4 := hid x4
  have NN := hid (And.intro n1 (And.intro n2 n3))
  clear f4 hbel hR4 x34 x4 x3 hR3 hR2 b3 b4 hB2 s3 z2 z3 n1 n2 n3 f1 hs1 hB1
  go_wp2
  refine bodyPost_ret (pair_ret rfl _ _ W.heap.size _ _ (0, 0) rfl (two_set FR.out _ _)) rfl ?_
  refine ⟨_, _, rfl, two_below HB.out (Nat.le_refl _) _ _, Bh, Bx, Bd, ⟨?_, ?_, ?_⟩, ?_, ?_⟩
  · exact box_of (two_far _ _ _ _ _ NN.out.2.2.1) HR.out.h
  · exact box_of (two_far _ _ _ _ _ NN.out.2.2.2.1) HR.out.x
  · exact box_of (two_far _ _ _ _ _ NN.out.2.2.2.2) HR.out.d
  · exact box_of (two_far _ _ _ _ _ NN.out.1) X3.out
  · exact box_of (two_far _ _ _ _ _ NN.out.2.1) X4.out
theorem narrows_c (W : World) (hb w : Nat) : Calls Tryz.prog 52 #[.pointer (some ⟨hb, 0, none⟩), .int .u64 (w : Nat)] W fun e w' => ∃ Br Bw, e = .returned (.agg #[.func (.func 87) #[] #[.pointer (some ⟨Br, 0, none⟩)], .func (.func 89) #[] #[.pointer (some ⟨Bw, 0, none⟩)]]) ∧ Below W.heap.size W w' ∧ PairAt w' Br Bw hb w 4 := by
  have hB1 : Below W.heap.size W (W.alloc (.cells #[.nilFunc, .nilFunc] 65)) := (Below.refl _ W).alloc (Nat.le_refl _) _
  have hs1 : (W.alloc (.cells #[.nilFunc, .nilFunc] 65)).heap.size = W.heap.size + 1 := World.size_alloc ..
  have f1 := World.alloc_heap_new W (.cells #[.nilFunc, .nilFunc] 65)
  have cw := fun w => width_c 6 w
  rw [show ((elB 6 : Nat) : Int) = 4 from rfl] at cw
  have cr := fun W => raw_c W hb w 4
  rw [show ((4 : Nat) : Int) = 4 from rfl] at cr
  generalize hW1 : W.alloc (.cells #[.nilFunc, .nilFunc] 65) = W1 at *
  go_enter Tryz.func52, Tryz.ntmps52
  go_upto_region 2 with (first | (go_at_call 30; (with_reducible refine (cw _).mono ?_); rintro e w' ⟨rfl, hw⟩; (have hw' := hw.symm); subst hw'; clear hw) | (go_at_call 83; (with_reducible refine (cr _).mono ?_); rintro e w2 ⟨Bh, Bx, Bd, rfl, hB2, hR2⟩))
  have b3 : Below w2.heap.size w2 (w2.alloc (.cells #[(.func (.func 120) #[] #[.pointer (some ⟨Bh, 0, none⟩), .pointer (some ⟨Bx, 0, none⟩), .pointer (some ⟨Bd, 0, none⟩)])] 62)) := (Below.refl _ w2).alloc (Nat.le_refl _) _
  have s3 : (w2.alloc (.cells #[(.func (.func 120) #[] #[.pointer (some ⟨Bh, 0, none⟩), .pointer (some ⟨Bx, 0, none⟩), .pointer (some ⟨Bd, 0, none⟩)])] 62)).heap.size = w2.heap.size + 1 := World.size_alloc ..
  have x3 := Boxed.new w2 62 (.func (.func 120) #[] #[.pointer (some ⟨Bh, 0, none⟩), .pointer (some ⟨Bx, 0, none⟩), .pointer (some ⟨Bd, 0, none⟩)])
  have hR3 := hR2.below b3
  generalize w2.alloc (.cells #[(.func (.func 120) #[] #[.pointer (some ⟨Bh, 0, none⟩), .pointer (some ⟨Bx, 0, none⟩), .pointer (some ⟨Bd, 0, none⟩)])] 62) = w3 at *
  have b4 : Below w3.heap.size w3 (w3.alloc (.cells #[(.func (.func 122) #[] #[.pointer (some ⟨Bh, 0, none⟩), .pointer (some ⟨Bx, 0, none⟩), .pointer (some ⟨Bd, 0, none⟩)])] 126)) := (Below.refl _ w3).alloc (Nat.le_refl _) _
  have x4 := Boxed.new w3 126 (.func (.func 122) #[] #[.pointer (some ⟨Bh, 0, none⟩), .pointer (some ⟨Bx, 0, none⟩), .pointer (some ⟨Bd, 0, none⟩)])
  rw [s3] at x4
  have hR4 := hR3.below b4
  have x34 := box_of (b4.block _ x3.lt) x3
  generalize w3.alloc (.cells #[(.func (.func 122) #[] #[.pointer (some ⟨Bh, 0, none⟩), .pointer (some ⟨Bx, 0, none⟩), .pointer (some ⟨Bd, 0, none⟩)])] 126) = w4 at *
  have z2 := hB2.size
  have z3 := b3.size
  have f4 : w4.heap[W.heap.size]? = some (.cells #[.nilFunc, .nilFunc] 65) := (b4.block W.heap.size (by omega)).trans ((b3.block _ (by omega)).trans ((hB2.block _ (by omega)).trans f1))
  have hbel : Below W.heap.size W w4 := ((hB1.trans (hB2.mono hB1.size)).trans (b3.mono (by omega))).trans (b4.mono (by omega))
  have eR := fun j => cell_of_row w4 W.heap.size j _ _ _ f4
  have zR : ∀ j, w4.frozen? ⟨W.heap.size, j, none⟩ = false := fun j => by simp [World.frozen?, f4]
  have n1 : w2.heap.size ≠ W.heap.size := by omega
  have n2 : w2.heap.size + 1 ≠ W.heap.size := by omega
  have n3 : Bh ≠ W.heap.size ∧ Bx ≠ W.heap.size ∧ Bd ≠ W.heap.size := by
    refine ⟨fun e => ?_, fun e => ?_, fun e => ?_⟩
    · have := hR4.h; rw [e] at this; unfold Boxed at this; rw [f4] at this; simp at this
    · have := hR4.x; rw [e] at this; unfold Boxed at this; rw [f4] at this; simp at this
    · have := hR4.d; rw [e] at this; unfold Boxed at this; rw [f4] at this; simp at this
  have FR := hid f4
  have HB := hid hbel
  have HR := hid hR4
  have X3 := hid x34
  have X4 := hid x4
  have NN := hid (And.intro n1 (And.intro n2 n3))
  clear f4 hbel hR4 x34 x4 x3 hR3 hR2 b3 b4 hB2 s3 z2 z3 n1 n2 n3 f1 hs1 hB1
  go_wp2
  refine bodyPost_ret (pair_ret rfl _ _ W.heap.size _ _ (0, 0) rfl (two_set FR.out _ _)) rfl ?_
  refine ⟨_, _, rfl, two_below HB.out (Nat.le_refl _) _ _, Bh, Bx, Bd, ⟨?_, ?_, ?_⟩, ?_, ?_⟩
  · exact box_of (two_far _ _ _ _ _ NN.out.2.2.1) HR.out.h
  · exact box_of (two_far _ _ _ _ _ NN.out.2.2.2.1) HR.out.x
  · exact box_of (two_far _ _ _ _ _ NN.out.2.2.2.2) HR.out.d
  · exact box_of (two_far _ _ _ _ _ NN.out.1) X3.out
  · exact box_of (two_far _ _ _ _ _ NN.out.2.1) X4.out
end Go.Proofs.YtikgicepdalfpaaGreat.W
/- Package buf: New; element; raw's functions. -/
namespace Go.Proofs.YtikgicepdalfpaaGreat.W
open Go.ChangeShapes Go.WideShapes Go.RowKit Go.Shelf
set_option linter.unusedVariables false
theorem isVal_nil (H : List (Option Hc)) : isVal H nilN = true := by unfold isVal; rw [if_neg (by decide), if_neg (by decide)]
theorem most_fit (u n : Nat) {k : Int} (hk : thK k) (h : 1 + (n * elT k + 7) / 8 ≤ u) : (n : Int) ≤ mostE u k := by
  unfold mostE
  rcases elT_cases hk with e | e | e | e <;> rw [e] at h ⊢ <;> omega
section
variable {W0 W W1 W' : World} {hb : Nat} {H : List (Option Hc)} {u : Nat} {K : Nat → Prop}
theorem hf_nils (q : Hf W0 W hb H u K) (hB : Below W.heap.size W W1) (n : Nat) (hl : n ≤ 1048576) (gb : Nat) (hg0 : W.heap.size ≤ gb) (hg1 : gb < W1.heap.size) (hv : WordsAt W1 (.slice (some ⟨gb, 0, none⟩) n n) (List.replicate n nilN)) (hf : sumH H + (1 + n) ≤ u) (vr : Value) (rs : List Nat) (hr : WordsAt W1 vr rs) :
    Calls Tryz.prog 15 #[.pointer (some ⟨hb, 0, none⟩), .agg #[.int .i64 9, .bool false, .int .i64 0, .string ⟨#[]⟩, .slice none 0 0, .slice (some ⟨gb, 0, none⟩) n n, .int .u64 0, .int .i64 0, .int .i64 0], vr] W1 fun e w' => e = .returned (.tuple #[.int .u64 (hw (lid H) : Nat), .int .i64 0]) ∧ Hf W0 w' hb (putH H (lid H) (some (.row (List.replicate n nilN)))) u K ∧ Upd (Ch W0 K) W w' := by
  have q1 := q.below hB
  have hlen : (List.replicate n nilN).length = n := List.length_replicate
  have := hf_row q1 (List.replicate n nilN) (by rw [hlen]; exact hl) (fun x hx => by rw [(List.mem_replicate.1 hx).2]; decide) (fun x hx => by rw [(List.mem_replicate.1 hx).2]; exact isVal_nil H) (some ⟨gb, 0, none⟩) n (by rw [hlen]; exact hv) (fun x e => by cases e; exact .inr ⟨hg0, hg1⟩) (by rw [row_need, hlen]; exact hf) vr rs hr
  rw [hlen] at this
  refine this.mono ?_
  rintro e w' ⟨rfl, h1, h2⟩
  refine ⟨rfl, h1.sub (fun k e => .inl e), (Upd.of_below hB).trans' (h2.mono ?_)⟩
  rintro x ⟨e1, e2⟩
  exact ⟨fun e => e1 (.inl e), e2⟩
theorem bnew_row (q : Hf W0 W hb H u K) (n : Nat) (hf : sumH H + (1 + n) ≤ u) (vr : Value) (rs : List Nat) (hr : WordsAt W vr rs) :
    Calls Tryz.prog 5 #[.pointer (some ⟨hb, 0, none⟩), .int .i64 9, .int .i64 n, vr] W fun e w' => e = .returned (.tuple #[.int .u64 (hw (lid H) : Nat), .int .i64 0]) ∧ Hf W0 w' hb (putH H (lid H) (some (.row (List.replicate n nilN)))) u K ∧ Upd (Ch W0 K) W w' := by
  obtain ⟨sb, vc, T, l⟩ := q.lay
  have hu := l.u1
  have ci := fun w => isThing_c 9 (.inl rfl) w
  have cm := mostElements_c l 9 (.inl rfl)
  have hm := most_fit u n (k := 9) (.inl rfl) (by show 1 + (n * 8 + 7) / 8 ≤ u; omega)
  have cb := blank_row W n (by omega)
  have cp := fun (w2 : World) (gb : Nat) (hB : Below W.heap.size W w2) h0 h1 hv => hf_nils q hB n (by omega) gb h0 h1 hv hf vr rs (words_below hr hB)
  obtain ⟨orr, capr, hvr, _⟩ := id hr
  subst hvr
  have g1 : ¬ (n : Int) < 0 := by omega
  have g2 : ¬ (n : Int) > mostE u 9 := by omega
  generalize mostE u 9 = M at *
  generalize hw (lid H) = X at *
  clear l hr hf hm q
  go_enter Tryz.func5, Tryz.ntmps5
  go_wp2_with (first | (go_at_call 13; (with_reducible refine (ci _).mono ?_); rintro e w' ⟨rfl, hw⟩; (have hw' := hw.symm); subst hw'; clear hw) | (go_at_call 14; (with_reducible refine cm.mono ?_); rintro e w' ⟨rfl, hw⟩; (have hw' := hw.symm); subst hw'; clear hw) | (go_at_call 16; (with_reducible refine cb.mono ?_); rintro e w2 ⟨gb, rfl, hB2, hv2, hg0, hg1⟩; clear cb) | (go_at_call 15; (with_reducible refine (cp _ gb hB2 hg0 hg1 hv2).mono ?_); rintro e w3 ⟨rfl, hq3, hu3⟩; clear cp))
  go_ret2
  exact ⟨rfl, hq3, hu3⟩
theorem bnew_buf (q : Hf W0 W hb H u K) (k : Int) (hk : elB k > 0) (n : Nat) (hf : sumH H + (1 + (n * elB k + 7) / 8) ≤ u) (vr : Value) (rs : List Nat) (hr : WordsAt W vr rs) :
    Calls Tryz.prog 5 #[.pointer (some ⟨hb, 0, none⟩), .int .i64 k, .int .i64 n, vr] W fun e w' => e = .returned (.tuple #[.int .u64 (hw (lid H) : Nat), .int .i64 0]) ∧ Hf W0 w' hb (putH H (lid H) (some (.buf k (List.replicate (n * elB k) 0)))) u K ∧ Upd (Ch W0 K) W w' := by
  obtain ⟨sb, vc, T, l⟩ := q.lay
  have hu := l.u1
  have h9 : ¬ k = 9 := by rintro rfl; simp [elB] at hk
  have eT : elT k = elB k := by unfold elT; rw [if_neg h9]
  have hel : elB k = 1 ∨ elB k = 2 ∨ elB k = 4 ∨ elB k = 8 := by have := elT_cases (k := k) (.inr hk); rw [eT] at this; exact this
  have ci := fun w => isThing_c k (.inr hk) w
  have cm := mostElements_c l k (.inr hk)
  have hm := most_fit u n (k := k) (.inr hk) (by rw [eT]; omega)
  have hn8 : n * elB k ≤ 8388608 := by omega
  have cb := blank_buf W k hk n hn8
  have cp := fun (w2 : World) (gb : Nat) (hB : Below W.heap.size W w2) h0 h1 hv => hf_blank q hB k hk (n * elB k) hn8 (Nat.mul_mod_left _ _) gb h0 h1 hv hf vr rs (words_below hr hB)
  obtain ⟨orr, capr, hvr, _⟩ := id hr
  subst hvr
  have g1 : ¬ (n : Int) < 0 := by omega
  have g2 : ¬ (n : Int) > mostE u k := by omega
  have hnw : IntKind.i64.wrap (n : Int) = n := by
    have : n ≤ 8388608 := by rcases hel with e | e | e | e <;> rw [e] at hn8 <;> omega
    rw [IntKind.wrap_i64]; omega
  generalize mostE u k = M at *
  generalize hw (lid H) = X at *
  generalize n * elB k = N at *
  clear l hr hf hm q hel eT hk
  go_enter Tryz.func5, Tryz.ntmps5
  go_wp2_with (first | (go_at_call 13; (with_reducible refine (ci _).mono ?_); rintro e w' ⟨rfl, hw⟩; (have hw' := hw.symm); subst hw'; clear hw) | (go_at_call 14; (with_reducible refine cm.mono ?_); rintro e w' ⟨rfl, hw⟩; (have hw' := hw.symm); subst hw'; clear hw) | (go_at_call 16; (with_reducible refine cb.mono ?_); rintro e w2 ⟨gb, rfl, hB2, hv2, hg0, hg1⟩; clear cb) | (go_at_call 15; (with_reducible refine (cp _ gb hB2 hg0 hg1 hv2).mono ?_); rintro e w3 ⟨rfl, hq3, hu3⟩; clear cp))
  go_ret2
  exact ⟨rfl, hq3, hu3⟩
theorem bnew_c (q : Hf W0 W hb H u K) (k : Int) (hk : thK k) (n : Nat) (hf : sumH H + (blankH k n).need ≤ u) (vr : Value) (rs : List Nat) (hr : WordsAt W vr rs) :
    Calls Tryz.prog 5 #[.pointer (some ⟨hb, 0, none⟩), .int .i64 k, .int .i64 n, vr] W fun e w' => e = .returned (.tuple #[.int .u64 (hw (lid H) : Nat), .int .i64 0]) ∧ Hf W0 w' hb (putH H (lid H) (some (blankH k n))) u K ∧ Upd (Ch W0 K) W w' := by
  rw [blank_need hk] at hf
  rcases hk with rfl | hk
  · have e : blankH 9 n = .row (List.replicate n nilN) := rfl
    rw [e]
    exact bnew_row q n (by have : elT 9 = 8 := rfl
                           rw [this] at hf; omega) vr rs hr
  · have h9 : ¬ k = 9 := by rintro rfl; simp [elB] at hk
    have e : blankH k n = .buf k (List.replicate (n * elB k) 0) := by unfold blankH; rw [if_neg h9]
    have eT : elT k = elB k := by unfold elT; rw [if_neg h9]
    rw [e]
    rw [eT] at hf
    exact bnew_buf q k hk n hf vr rs hr
theorem bnew_neg (q : Hf W0 W hb H u K) (k : Int) (hk : thK k) (n : Int) (hn : n < 0) (vr : Value) : Calls Tryz.prog 5 #[.pointer (some ⟨hb, 0, none⟩), .int .i64 k, .int .i64 n, vr] W fun e w' => e = .returned (.tuple #[.int .u64 0, .int .i64 13]) ∧ w' = W := by
  have ci := fun w => isThing_c k hk w
  clear q hk
  go_enter Tryz.func5, Tryz.ntmps5
  go_wp2_with (go_at_call 13; (with_reducible refine (ci _).mono ?_); rintro e w' ⟨rfl, hw⟩; (have hw' := hw.symm); subst hw'; clear hw)
  go_ret2
  exact ⟨rfl, rfl⟩
theorem bnew_big (q : Hf W0 W hb H u K) (k : Int) (hk : thK k) (n : Int) (hn : 0 ≤ n) (hb' : n > mostE u k) (vr : Value) : Calls Tryz.prog 5 #[.pointer (some ⟨hb, 0, none⟩), .int .i64 k, .int .i64 n, vr] W fun e w' => e = .returned (.tuple #[.int .u64 0, .int .i64 40]) ∧ w' = W := by
  obtain ⟨sb, vc, T, l⟩ := q.lay
  have ci := fun w => isThing_c k hk w
  have cm := mostElements_c l k hk
  have g1 : ¬ n < 0 := by omega
  generalize mostE u k = M at *
  clear q hk l hn
  go_enter Tryz.func5, Tryz.ntmps5
  go_wp2_with (first | (go_at_call 13; (with_reducible refine (ci _).mono ?_); rintro e w' ⟨rfl, hw⟩; (have hw' := hw.symm); subst hw'; clear hw) | (go_at_call 14; (with_reducible refine cm.mono ?_); rintro e w' ⟨rfl, hw⟩; (have hw' := hw.symm); subst hw'; clear hw))
  go_ret2
  exact ⟨rfl, rfl⟩
end
section
variable {W W' : World} {hb sb : Nat} {vc : Value} {T : Nat → Prop} {H : List (Option Hc)} {u h : Nat}
set_option maxRecDepth 100000 in
set_option maxHeartbeats 1000000 in
theorem elem_core (w i : Int) (kd : Int) (vw : Bool) (bl wl : Nat) (ba fr ln : Int) (xs : List Value) (m : Nat) (hget : ∀ w1, Below W.heap.size W w1 → Calls Tryz.prog 44 #[.pointer (some ⟨hb, 0, none⟩), .int .u64 w] w1 (ThP w1 kd vw bl wl ba fr ln xs))
    (hcnt : ∀ ob ow bc wc W, Calls Tryz.prog 45 #[.agg #[.int .i64 kd, .bool vw, .int .i64 0, .string ⟨#[]⟩, .slice ob bl bc, .slice ow wl wc, .int .u64 ba, .int .i64 fr, .int .i64 ln]] W fun e w' => e = .returned (.int .i64 (m : Nat)) ∧ Below W.heap.size W w') :
    Calls Tryz.prog 24 #[.pointer (some ⟨hb, 0, none⟩), .int .u64 w, .int .i64 i] W fun e w' => (0 ≤ i ∧ i < m ∧ ThP W kd vw bl wl ba fr ln xs e w') ∨ (¬ (0 ≤ i ∧ i < m) ∧ e = .returned (.tuple #[.agg #[.int .i64 0, .bool false, .int .i64 0, .string ⟨#[]⟩, .slice none 0 0, .slice none 0 0, .int .u64 0, .int .i64 0, .int .i64 0], .int .i64 31]) ∧ Below W.heap.size W w') := by
  have hB1 : Below W.heap.size W (W.alloc (.cells #[.int .i64 0, .bool false, .int .i64 0, .string ⟨#[]⟩, .slice none 0 0, .slice none 0 0, .int .u64 0, .int .i64 0, .int .i64 0] 50)) := (Below.refl _ W).alloc (Nat.le_refl _) _
  have hs1 : (W.alloc (.cells #[.int .i64 0, .bool false, .int .i64 0, .string ⟨#[]⟩, .slice none 0 0, .slice none 0 0, .int .u64 0, .int .i64 0, .int .i64 0] 50)).heap.size = W.heap.size + 1 := World.size_alloc ..
  have f1 := World.alloc_heap_new W (.cells #[.int .i64 0, .bool false, .int .i64 0, .string ⟨#[]⟩, .slice none 0 0, .slice none 0 0, .int .u64 0, .int .i64 0, .int .i64 0] 50)
  have cg := hget _ hB1
  clear hget
  generalize hW1 : W.alloc (.cells #[.int .i64 0, .bool false, .int .i64 0, .string ⟨#[]⟩, .slice none 0 0, .slice none 0 0, .int .u64 0, .int .i64 0, .int .i64 0] 50) = W1 at *
  go_enter Tryz.func24, Tryz.ntmps24
  go_upto_region 1 with fail
  clear hW1
  go_upto_region 2 with (go_at_call 44; (with_reducible refine cg.mono ?_); rintro e w2 ⟨ob, bc, ow, wc, rfl, hB2, ho⟩; clear cg)
  have hB3 : Below w2.heap.size w2 (w2.alloc (.cells #[.int .i64 kd, .bool vw, .int .i64 0, .string ⟨#[]⟩, .slice ob bl bc, .slice ow wl wc, .int .u64 ba, .int .i64 fr, .int .i64 ln] 50)) := (Below.refl _ w2).alloc (Nat.le_refl _) _
  have hs3 : (w2.alloc (.cells #[.int .i64 kd, .bool vw, .int .i64 0, .string ⟨#[]⟩, .slice ob bl bc, .slice ow wl wc, .int .u64 ba, .int .i64 fr, .int .i64 ln] 50)).heap.size = w2.heap.size + 1 := World.size_alloc ..
  have e3 := World.cell?_alloc_new w2 #[.int .i64 kd, .bool vw, .int .i64 0, .string ⟨#[]⟩, .slice ob bl bc, .slice ow wl wc, .int .u64 ba, .int .i64 fr, .int .i64 ln] 50
  have z2 := hB2.size
  have f3 : (w2.alloc (.cells #[.int .i64 kd, .bool vw, .int .i64 0, .string ⟨#[]⟩, .slice ob bl bc, .slice ow wl wc, .int .u64 ba, .int .i64 fr, .int .i64 ln] 50)).heap[W.heap.size]? = some (.cells #[.int .i64 0, .bool false, .int .i64 0, .string ⟨#[]⟩, .slice none 0 0, .slice none 0 0, .int .u64 0, .int .i64 0, .int .i64 0] 50) := (hB3.block W.heap.size (by omega)).trans ((hB2.block _ (by omega)).trans f1)
  have ho3 := owns_on ho (fun k e => hB3.block k (ho.lt k e).2)
  have hbel : Below W.heap.size W (w2.alloc (.cells #[.int .i64 kd, .bool vw, .int .i64 0, .string ⟨#[]⟩, .slice ob bl bc, .slice ow wl wc, .int .u64 ba, .int .i64 fr, .int .i64 ln] 50)) := (hB1.trans (hB2.mono hB1.size)).trans (hB3.mono (by have := hB1.size; omega))
  have hge : ∀ q, (Value.slice ow wl wc).ownBlock = some q → W.heap.size + 1 ≤ q := fun q e => by have := (ho.lt q e).1; omega
  have hwz : W.heap.size ≠ w2.heap.size := by omega
  generalize w2.alloc (.cells #[.int .i64 kd, .bool vw, .int .i64 0, .string ⟨#[]⟩, .slice ob bl bc, .slice ow wl wc, .int .u64 ba, .int .i64 fr, .int .i64 ln] 50) = w3 at *
  have kp : Hid (∀ w4, Below w3.heap.size w3 w4 → (∀ j, w4.cell? ⟨w2.heap.size, j, none⟩ = #[.int .i64 kd, .bool vw, .int .i64 0, .string ⟨#[]⟩, .slice ob bl bc, .slice ow wl wc, .int .u64 ba, .int .i64 fr, .int .i64 ln][j]?) ∧ w4.heap[W.heap.size]? = some (.cells #[.int .i64 0, .bool false, .int .i64 0, .string ⟨#[]⟩, .slice none 0 0, .slice none 0 0, .int .u64 0, .int .i64 0, .int .i64 0] 50) ∧ Below W.heap.size W w4 ∧ w4.ownsRow W1.heap.size 22 1 (.slice ow wl wc) wl xs) := by
    show ∀ w4, _
    intro w4 hB4
    exact ⟨fun j => (World.cell?_of_block (hB4.block w2.heap.size (by omega))).trans (e3 j), (hB4.block _ (by omega)).trans f3, hbel.trans (hB4.mono hbel.size), owns_on ho3 (fun k e => hB4.block k (ho3.lt k e).2)⟩
  have cc := hcnt ob ow bc wc w3
  have HG := hid hge
  have fin : Hid (Below W.heap.size W w3 ∧ w3.heap[W.heap.size]? = some (.cells #[.int .i64 0, .bool false, .int .i64 0, .string ⟨#[]⟩, .slice none 0 0, .slice none 0 0, .int .u64 0, .int .i64 0, .int .i64 0] 50)) := ⟨hbel, f3⟩
  clear ho ho3 hbel hge f3 hB2 hB3 hB1 hs1 z2 f1 hs3 hcnt
  by_cases i0 : i < 0
  · obtain ⟨hB3, f3⟩ := fin.out
    have eR := fun j => cell_of_row w3 W.heap.size j _ _ _ f3
    have zR : ∀ j, w3.frozen? ⟨W.heap.size, j, none⟩ = false := fun j => by simp [World.frozen?, f3]
    have FR := hid f3
    have HB := hid hB3
    clear f3 hB3 kp cc fin
    go_wp2
    refine bodyPost_ret (cell_ret2 rfl _ _ W.heap.size _ _ _ _ _ _ _ _ _ (0, 0) rfl (nine_set FR.out _ _ _ _ _ _ _ _ _)) rfl ?_
    exact .inr ⟨by omega, rfl, nine_below HB.out (Nat.le_refl _) _ _ _ _ _ _ _ _ _⟩
  · by_cases i1 : i ≥ (m : Int)
    · clear fin
      go_wp2_with (go_at_call 45; (with_reducible refine cc.mono ?_); rintro e w4 ⟨rfl, hB4⟩; clear cc; (obtain ⟨e4, f4, hB5, ho4⟩ := kp.out w4 hB4); (have eR := fun j => cell_of_row w4 W.heap.size j _ _ _ f4); (have zR := (fun j => by simp [World.frozen?, f4] : ∀ j, w4.frozen? ⟨W.heap.size, j, none⟩ = false)); (have FR := hid f4); (have HB := hid hB5); clear f4 hB5 ho4 hB4)
      refine bodyPost_ret (cell_ret2 rfl _ _ W.heap.size _ _ _ _ _ _ _ _ _ (0, 0) rfl (nine_set FR.out _ _ _ _ _ _ _ _ _)) rfl ?_
      exact .inr ⟨by omega, rfl, nine_below HB.out (Nat.le_refl _) _ _ _ _ _ _ _ _ _⟩
    · clear fin
      go_wp2_with (go_at_call 45; (with_reducible refine cc.mono ?_); rintro e w4 ⟨rfl, hB4⟩; clear cc; (obtain ⟨e4, f4, hB5, ho4⟩ := kp.out w4 hB4); (have eR := fun j => cell_of_row w4 W.heap.size j _ _ _ f4); (have zR := (fun j => by simp [World.frozen?, f4] : ∀ j, w4.frozen? ⟨W.heap.size, j, none⟩ = false)); (have FR := hid f4); (have HB := hid hB5); (have HO := hid ho4); clear f4 hB5 ho4 hB4)
      refine bodyPost_ret (cell_ret2 rfl _ _ W.heap.size _ _ _ _ _ _ _ _ _ (0, 0) rfl (nine_set FR.out _ _ _ _ _ _ _ _ _)) rfl ?_
      refine .inl ⟨by omega, by omega, ob, bc, ow, wc, rfl, nine_below HB.out (Nat.le_refl _) _ _ _ _ _ _ _ _ _, ?_⟩
      refine owns_on (owns_base HO.out (fun q e => by have := HG.out q e; omega)) (fun q e => ?_)
      exact nine_far _ _ _ _ _ _ _ _ _ _ _ q (by have := HG.out q e; omega)
theorem elem_c (g : HLay W hb sb vc T H u h) (w : Nat) (hw : w < 18446744073709551616) (id : Nat) (hi : hit H w = some id) (c : Hc) (hc : H[id]? = some (some c)) (hth : isTh c) (i : Int) (h0 : 0 ≤ i) (h1 : i < (c.cnt : Nat)) :
    Calls Tryz.prog 24 #[.pointer (some ⟨hb, 0, none⟩), .int .u64 w, .int .i64 i] W (ThPost W c) := by
  refine (elem_core w i c.cl.kind c.cl.view c.bl c.wl c.cl.base c.cl.frm c.cl.len (wds c.ws) c.cnt (fun w1 hB => thing_c (g.below hB) w hw id hi c hc hth) (fun ob ow bc wc W => count_c c hth (g.ok id c hc) ob ow bc wc W)).mono ?_
  rintro e w' (⟨_, _, h⟩ | ⟨h, _⟩)
  · exact h
  · exact absurd ⟨h0, h1⟩ h
theorem elem_out (g : HLay W hb sb vc T H u h) (w : Nat) (hw : w < 18446744073709551616) (id : Nat) (hi : hit H w = some id) (c : Hc) (hc : H[id]? = some (some c)) (hth : isTh c) (i : Int) (h1 : ¬ (0 ≤ i ∧ i < (c.cnt : Nat))) :
    Calls Tryz.prog 24 #[.pointer (some ⟨hb, 0, none⟩), .int .u64 w, .int .i64 i] W fun e w' => e = .returned (.tuple #[.agg #[.int .i64 0, .bool false, .int .i64 0, .string ⟨#[]⟩, .slice none 0 0, .slice none 0 0, .int .u64 0, .int .i64 0, .int .i64 0], .int .i64 31]) ∧ Below W.heap.size W w' := by
  refine (elem_core w i c.cl.kind c.cl.view c.bl c.wl c.cl.base c.cl.frm c.cl.len (wds c.ws) c.cnt (fun w1 hB => thing_c (g.below hB) w hw id hi c hc hth) (fun ob ow bc wc W => count_c c hth (g.ok id c hc) ob ow bc wc W)).mono ?_
  rintro e w' (⟨h2, h3, _⟩ | ⟨_, h⟩)
  · exact absurd ⟨h2, h3⟩ h1
  · exact h
theorem raw1_c {w : Nat} {k k2 : Int} {t p n wd Bh Bx Bd : Nat} {bs : List Nat} (g : HLay W hb sb vc T H u h) (s : Spot H w k t p n k2 bs) (r : RawAt W Bh Bx Bd hb w wd) (hwd : wd = 1 ∨ wd = 2 ∨ wd = 4 ∨ wd = 8) (i : Nat) (hi : i * wd + wd ≤ n) (ha : (p + i * wd) % wd = 0) :
    Calls Tryz.prog 120 #[.int .i64 i, .pointer (some ⟨Bh, 0, none⟩), .pointer (some ⟨Bx, 0, none⟩), .pointer (some ⟨Bd, 0, none⟩)] W fun e w' => e = .returned (.int .u64 (leN (seg bs (p + i * wd) wd) : Nat)) ∧ Below W.heap.size W w' := by
  have hok := g.ok t _ s.cell
  have hl8 : bs.length ≤ 8388608 := hok.2.2
  have hfit := s.fit
  have cr := hread_c g s wd hwd (i * wd) hi ha
  have x1 := r.h.cell
  have x2 := r.x.cell
  have x3 := r.d.cell
  have h2 : ((i * wd : Nat) : Int) = (i : Int) * (wd : Int) := by simp
  have hmul : IntKind.i64.wrap ((i : Int) * (wd : Int)) = ((i * wd : Nat) : Int) := by rw [IntKind.wrap_i64, ← h2]; omega
  have hmul' : wrap64 ((i : Int) * (wd : Int)) = ((i * wd : Nat) : Int) := by unfold wrap64; rw [← h2]; omega
  generalize leN (seg bs (p + i * wd) wd) = X at *
  generalize i * wd = iw at *
  clear g s r hok hl8 hfit hi ha h2 hwd
  go_enter Tryz.func120, Tryz.ntmps120
  go_wp2_with (go_at_call 121; (with_reducible refine cr.mono ?_); rintro e w2 ⟨rfl, hB2⟩; clear cr)
  go_ret
  exact ⟨rfl, hB2⟩
theorem raw2_c {w : Nat} {k k2 : Int} {t p n wd Bh Bx Bd : Nat} {bs : List Nat} (g : HLay W hb sb vc T H u h) (s : Spot H w k t p n k2 bs) (r : RawAt W Bh Bx Bd hb w wd) (hwd : wd = 1 ∨ wd = 2 ∨ wd = 4 ∨ wd = 8) (i : Nat) (hi : i * wd + wd ≤ n) (ha : (p + i * wd) % wd = 0) (x : Nat) (hx : x < 18446744073709551616) :
    Calls Tryz.prog 122 #[.int .i64 i, .int .u64 (x : Nat), .pointer (some ⟨Bh, 0, none⟩), .pointer (some ⟨Bx, 0, none⟩), .pointer (some ⟨Bd, 0, none⟩)] W fun e w' => e = .returned (.int .i64 0) ∧ Upd T W w' ∧ HLay w' hb sb vc T (H.set t (some (.buf k2 (saved bs (p + i * wd) x wd)))) u h := by
  have hok := g.ok t _ s.cell
  have hl8 : bs.length ≤ 8388608 := hok.2.2
  have hfit := s.fit
  have cr := hwrite_c g s wd hwd (i * wd) hi ha x hx
  have x1 := r.h.cell
  have x2 := r.x.cell
  have x3 := r.d.cell
  have h2 : ((i * wd : Nat) : Int) = (i : Int) * (wd : Int) := by simp
  have hmul : IntKind.i64.wrap ((i : Int) * (wd : Int)) = ((i * wd : Nat) : Int) := by rw [IntKind.wrap_i64, ← h2]; omega
  have hmul' : wrap64 ((i : Int) * (wd : Int)) = ((i * wd : Nat) : Int) := by unfold wrap64; rw [← h2]; omega
  generalize (H.set t (some (.buf k2 (saved bs (p + i * wd) x wd)))) = HH at *
  generalize i * wd = iw at *
  clear g s r hok hl8 hfit hi ha h2 hwd
  go_enter Tryz.func122, Tryz.ntmps122
  go_wp2_with (go_at_call 123; (with_reducible refine cr.mono ?_); rintro e w2 ⟨rfl, hU, hL⟩; clear cr)
  go_ret
  exact ⟨rfl, hU, hL⟩
end
end Go.Proofs.YtikgicepdalfpaaGreat.W
