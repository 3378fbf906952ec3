import Derived.Test.YtgmimmdojkoppaaGreatDoorBase22
import Derived.Test.YtgmimmdojkoppaaGreatDoorBase20
import Derived.Test.YtgmimmdojkoppaaGreatDoorBase21
import Derived.Laws.IdiomStrings
import Derived.Test.YtgmimmdojkoppaaGreatDoorBase12
import Derived.Laws.BytesArg
import Derived.Test.YtgmimmdojkoppaaGreatDoorBase0
import Derived.Lib.ConvBytes
/- Package heap: load and Get, of a string. -/
namespace Go.Proofs.YtgmimmdojkoppaaGreatDoor.W
open Go.ChangeShapes Go.WideShapes Go.RowKit Go.Shelf
set_option linter.unusedVariables false
theorem conv_back (w : World) (gb : Nat) (t : ByteArray) (B : Nat) (h : w.ownsRow B 5 1 (.slice (some ⟨gb, 0, none⟩) t.size t.size) t.size ((strB t).map byteV)) : (convert 66 9 (.slice (some ⟨gb, 0, none⟩) t.size t.size)).run Tryz.prog w = .ok (.string t) w := by
  have hl : t.data.toList.length = t.size := by rw [Array.length_toList]; rfl
  have := run_convert_bytes_back (P := Tryz.prog) w 66 9 5 ⟨gb, 0, none⟩ t.size t.data.toList Tryz.underlying66 Tryz.underlying5 Tryz.underlying9 (fun j hj => ?_)
  · rw [hl] at this
    simpa using this
  · have e := h.cells (g := gb) rfl j (byteV (t.data.toList[j]).toNat) ?_
    · exact e
    · unfold strB
      rw [List.getElem?_map, List.getElem?_map, List.getElem?_eq_getElem hj]; rfl
section
variable {W W' : World} {hb sb : Nat} {vc : Value} {T : Nat → Prop} {H : List (Option Hc)} {u h : Nat}
set_option maxHeartbeats 1000000 in
theorem load_text (g : HLay W hb sb vc T H u h) (id : Nat) (t : ByteArray) (hc : H[id]? = some (some (.text (strB t)))) :
    Calls Tryz.prog 153 #[.pointer (some ⟨hb, 0, none⟩), .int .i64 id] W fun e w' => e = .returned (.agg #[.int .i64 4, .bool false, .int .i64 0, .string t, .slice none 0 0, .slice none 0 0, .int .u64 0, .int .i64 0, .int .i64 0]) ∧ Below W.heap.size W w' := by
  have hidl : id < H.length := (List.getElem?_eq_some_iff.1 hc).1
  obtain ⟨b, cap, hvc, hcell, _⟩ := g.at hidl
  have c1 := g.cell 1
  simp only [List.getElem?_cons_succ, List.getElem?_cons_zero] at c1
  rw [hvc] at c1
  have k0 := hcell 0 _ hc (by omega)
  have k1 := hcell 1 _ hc (by omega)
  have k2 := hcell 2 _ hc (by omega)
  have k3 := hcell 3 _ hc (by omega)
  have k4 := hcell 4 _ hc (by omega)
  simp only [clO, Hc.cl, Cl.cells, List.getElem?_cons_succ, List.getElem?_cons_zero, Nat.add_zero] at k0 k1 k2 k3 k4
  have j0 : (0 : Int) ≤ id := by omega
  have j1 : (id : Int) < H.length := by omega
  have cs : ∀ w, Calls Tryz.prog 170 #[.int .i64 4, .bool false] w fun e w' => e = .returned (.int .i64 2) ∧ w' = w := fun w => shape_c 4 false w
  clear hcell
  have hB1 : Below W.heap.size W (W.alloc (.cells #[.int .i64 0, .bool false, .int .i64 0, .string ⟨#[]⟩, .slice none 0 0, .slice none 0 0, .int .u64 0, .int .i64 0, .int .i64 0] 99)) := (Below.refl _ W).alloc (Nat.le_refl _) _
  have hs1 : (W.alloc (.cells #[.int .i64 0, .bool false, .int .i64 0, .string ⟨#[]⟩, .slice none 0 0, .slice none 0 0, .int .u64 0, .int .i64 0, .int .i64 0] 99)).heap.size = W.heap.size + 1 := World.size_alloc ..
  have e1 := World.cell?_alloc_new W #[.int .i64 0, .bool false, .int .i64 0, .string ⟨#[]⟩, .slice none 0 0, .slice none 0 0, .int .u64 0, .int .i64 0, .int .i64 0] 99
  have f1 := World.alloc_heap_new W (.cells #[.int .i64 0, .bool false, .int .i64 0, .string ⟨#[]⟩, .slice none 0 0, .slice none 0 0, .int .u64 0, .int .i64 0, .int .i64 0] 99)
  go_enter Tryz.func153, Tryz.ntmps153
  go_upto_region 1 with fail
  have c1' := below_cell hB1 c1
  have k0' := below_cell hB1 k0
  have k1' := below_cell hB1 k1
  have k2' := below_cell hB1 k2
  have k3' := below_cell hB1 k3
  have k4' := below_cell hB1 k4
  generalize hW1 : W.alloc (.cells #[.int .i64 0, .bool false, .int .i64 0, .string ⟨#[]⟩, .slice none 0 0, .slice none 0 0, .int .u64 0, .int .i64 0, .int .i64 0] 99) = W1 at *
  clear c1 k0 k1 k2 k3 k4 hW1
  go_upto_region 2 with fail
  have hBc : Below W1.heap.size W1 (W1.alloc (.cells #[.int .i64 4, .bool false, .int .u64 0, .int .i64 0, .int .i64 0] 158)) := (Below.refl _ W1).alloc (Nat.le_refl _) _
  have fC := World.alloc_heap_new W1 (.cells #[.int .i64 4, .bool false, .int .u64 0, .int .i64 0, .int .i64 0] 158)
  rw [hs1] at fC
  have hsc : (W1.alloc (.cells #[.int .i64 4, .bool false, .int .u64 0, .int .i64 0, .int .i64 0] 158)).heap.size = W.heap.size + 2 := by rw [World.size_alloc, hs1]
  generalize World.alloc W1 _ = Wc at *
  have eC := fun j => cell_of_row Wc (W.heap.size + 1) j _ _ _ fC
  go_upto_region 3 with (go_at_call 135; (with_reducible refine (bare_c 4 false 0 0 0 _).mono ?_); rintro e wb ⟨rfl, hBb⟩)
  have hbz := hBb.size
  have fO := World.alloc_heap_new wb (.cells #[.int .i64 4, .bool false, .int .i64 0, .string ⟨#[]⟩, .slice none 0 0, .slice none 0 0, .int .u64 0, .int .i64 0, .int .i64 0] 99)
  have hBd : Below wb.heap.size wb (wb.alloc (.cells #[.int .i64 4, .bool false, .int .i64 0, .string ⟨#[]⟩, .slice none 0 0, .slice none 0 0, .int .u64 0, .int .i64 0, .int .i64 0] 99)) := (Below.refl _ wb).alloc (Nat.le_refl _) _
  have hB3 : Below W1.heap.size W1 (wb.alloc (.cells #[.int .i64 4, .bool false, .int .i64 0, .string ⟨#[]⟩, .slice none 0 0, .slice none 0 0, .int .u64 0, .int .i64 0, .int .i64 0] 99)) := (hBc.trans (hBb.mono (by omega))).trans (hBd.mono (by omega))
  have fC3 := (hBd.block (W.heap.size + 1) (by omega)).trans ((hBb.block (W.heap.size + 1) (by omega)).trans fC)
  obtain ⟨nb, hnb⟩ : ∃ nb, wb.heap.size = nb := ⟨_, rfl⟩
  rw [hnb] at fO
  rw [hnb]
  have hO2 : W.heap.size + 2 ≤ nb := by omega
  clear hnb hBd hBb hBc fC eC hsc hbz
  generalize World.alloc wb _ = W3 at *
  have eO := fun j => cell_of_row W3 nb j _ _ _ fO
  have eC3 := fun j => cell_of_row W3 (W.heap.size + 1) j _ _ _ fC3
  have hs3 := (Array.getElem?_eq_some_iff.1 fO).1
  have hs2 := hs3
  clear fC3
  have eR3 : ∀ j, W3.cell? ⟨W.heap.size, j, none⟩ = #[.int .i64 0, .bool false, .int .i64 0, .string ⟨#[]⟩, .slice none 0 0, .slice none 0 0, .int .u64 0, .int .i64 0, .int .i64 0][j]? := by
    intro j
    rw [World.cell?_of_block (hB3.block W.heap.size (by omega))]
    exact e1 j
  have hBW : Below W.heap.size W W3 := hB1.trans (hB3.mono hB1.size)
  have g3 := g.below hBW
  have fR : W3.heap[W.heap.size]? = some (.cells #[.int .i64 0, .bool false, .int .i64 0, .string ⟨#[]⟩, .slice none 0 0, .slice none 0 0, .int .u64 0, .int .i64 0, .int .i64 0] 99) := (hB3.block W.heap.size (by omega)).trans f1
  have c0 := g3.cell 0
  simp only [List.getElem?_cons_zero] at c0
  have ho := g.ok id _ hc
  have cl := loadBytes_c g3 id _ hc (strB t) rfl ho.1 (by have := ho.2; exact this)
  rw [strB_len] at cl
  have kp : Hid (∀ w4, Below W3.heap.size W3 w4 → w4.heap[W.heap.size]? = some (.cells #[.int .i64 0, .bool false, .int .i64 0, .string ⟨#[]⟩, .slice none 0 0, .slice none 0 0, .int .u64 0, .int .i64 0, .int .i64 0] 99) ∧ w4.heap[nb]? = some (.cells #[.int .i64 4, .bool false, .int .i64 0, .string ⟨#[]⟩, .slice none 0 0, .slice none 0 0, .int .u64 0, .int .i64 0, .int .i64 0] 99)) := by
    show ∀ w4, _
    intro w4 hB4
    exact ⟨(hB4.block _ (by omega)).trans fR, (hB4.block _ (by omega)).trans fO⟩
  clear eR3 fR fO g3 e1 c1' k0' k1' k2' k3' k4' f1
  go_upto_region 8 with (go_at_call 170; (with_reducible refine (cs _).mono ?_); rintro e w' ⟨rfl, hw⟩; (have hw' := hw.symm); subst hw'; clear hw)
  have HBW := hid hBW
  clear g ho hc hBW hB1 hB3 hs1 hs2 hs3 j0 j1
  go_wp2_with (go_at_call 201; (with_reducible refine cl.mono ?_); rintro e w4 ⟨gb, rfl, hgb, hB4, hown⟩; clear cl; (have hcv := conv_back w4 gb t _ hown); (obtain ⟨fR, fO⟩ := kp.out w4 hB4); (have eR := fun j => cell_of_row w4 W.heap.size j _ _ _ fR); (have eO := fun j => cell_of_row w4 (nb) j _ _ _ fO); (have zR := (fun j => by simp [World.frozen?, fR] : ∀ j, w4.frozen? ⟨W.heap.size, j, none⟩ = false)); (have zO := (fun j => by simp [World.frozen?, fO] : ∀ j, w4.frozen? ⟨nb, j, none⟩ = false)); (have FR := hid fR); (have HB4 := hid hB4); clear fR fO hB4 hown hgb)
  have hBf : Below W.heap.size W w4 := HBW.out.trans (HB4.out.mono HBW.out.size)
  refine bodyPost_ret (cell_ret rfl _ _ W.heap.size _ _ _ _ _ _ _ _ _ (0, 0) rfl (nine_set ((Below.heap_setCell _ _ _ _ (by show W.heap.size ≠ nb; omega)).trans FR.out) _ _ _ _ _ _ _ _ _)) rfl ?_
  exact ⟨rfl, nine_below (hBf.setCell (p := ⟨nb, 3, none⟩) (by show W.heap.size ≤ nb; omega) _) (Nat.le_refl _) _ _ _ _ _ _ _ _ _⟩
theorem get_text (g : HLay W hb sb vc T H u h) (w : Nat) (hw : w < 18446744073709551616) (id : Nat) (hi : hit H w = some id) (t : ByteArray) (hc : H[id]? = some (some (.text (strB t)))) :
    Calls Tryz.prog 92 #[.pointer (some ⟨hb, 0, none⟩), .int .u64 w] W fun e w' => e = .returned (.tuple #[.agg #[.int .i64 4, .bool false, .int .i64 0, .string t, .slice none 0 0, .slice none 0 0, .int .u64 0, .int .i64 0, .int .i64 0], .int .i64 0]) ∧ Below W.heap.size W w' :=
  get_c g w hw id hi 4 false 0 t none none 0 0 0 0 0 0 0 (fun w1 hB => load_text (g.below hB) id t hc)
end
end Go.Proofs.YtgmimmdojkoppaaGreatDoor.W
/- The contract of the reference's class function: it returns the class 'cls' of every pattern; the world has at most drawn. -/
namespace Go.Proofs.YtgmimmdojkoppaaGreatDoor.W
open Go.ChangeShapes Go.WideShapes Go.RowKit

theorem txt_lt (l k : Int) (hk : k ≤ 5) (hl : l / 1099511627776 = k) (c : l % 1099511627776 < 2 ^ (8 * k).toNat) : textCls l = 5 := by
  unfold textCls txtOk
  rw [hl]
  simp [hk, c]
theorem txt_ge (l k : Int) (hl : l / 1099511627776 = k) (c : ¬ l % 1099511627776 < 2 ^ (8 * k).toNat) : textCls l = 7 := by
  unfold textCls txtOk
  rw [hl]
  simp [c]
set_option maxHeartbeats 1000000 in
theorem refClass_c (n : Int) (h0 : 0 ≤ n) (h1 : n < 18446744073709551616) (w : World) :
    Calls Tryz.prog 7 #[.int .u64 n] w fun e w' => e = .returned (.int .i64 (cls n)) ∧ ∃ m, w' = w.drewN m := by
  by_cases c0 : nanB n = false
  · have H := hid (cls_dbl n c0)
    go_enter Tryz.func7, Tryz.ntmps7
    go_wp2_with (go_at_call 16; refine (refNaN_c _ (by omega) (by omega) _).mono ?_; rintro e w' ⟨rfl, rfl⟩)
    go_ret
    exact ⟨ret_int H.out.symm, 0, rfl⟩
  have c0' : nanB n = true := by simpa using c0
  clear c0
  by_cases c1 : n = 9221120237041090560
  · have H := hid cls_canon
    subst c1
    go_enter Tryz.func7, Tryz.ntmps7
    go_wp2_with (go_at_call 16; refine (refNaN_c _ (by omega) (by omega) _).mono ?_; rintro e w' ⟨rfl, rfl⟩)
    go_ret
    exact ⟨ret_int H.out.symm, 0, rfl⟩
  have d1 : (n == 9221120237041090560) = false := by simpa using c1
  by_cases c2 : n < 18444492273895866368
  · have H := hid (cls_low n c0' c1 c2)
    clear c1
    go_enter Tryz.func7, Tryz.ntmps7
    go_wp2_with (go_at_call 16; refine (refNaN_c _ (by omega) (by omega) _).mono ?_; rintro e w' ⟨rfl, rfl⟩)
    go_ret
    exact ⟨ret_int H.out.symm, 0, rfl⟩
  have c2' : 18444492273895866368 ≤ n := by omega
  clear c1 c2
  obtain ⟨t, ht⟩ : ∃ t, (n - 18444492273895866368) / 281474976710656 = t := ⟨_, rfl⟩
  obtain ⟨l, hl⟩ : ∃ l, n % 281474976710656 = l := ⟨_, rfl⟩
  have t0 : 0 ≤ t := by omega
  have t8 : t < 8 := by omega
  have l0 : 0 ≤ l := by omega
  have l1 : l < 281474976710656 := by omega
  have ht' : n / 281474976710656 % 8 = t := by omega
  by_cases e0 : t = 0
  · subst e0
    have H0 := cls_t0 n h1 c2' ht'
    rw [hl] at H0
    have H := hid H0
    clear H0 ht'
    by_cases f0 : l = 0
    · subst f0
      go_enter Tryz.func7, Tryz.ntmps7
      go_wp2_with (go_at_call 16; refine (refNaN_c _ (by omega) (by omega) _).mono ?_; rintro e w' ⟨rfl, rfl⟩)
      go_ret
      exact ⟨ret_int (by rw [H.out]; rfl), 0, rfl⟩
    · have g0 : (l == 0) = false := by simpa using f0
      by_cases f2 : l ≤ 2
      · have H2 := hid (show plainCls l = 4 by simp [plainCls, f0]; omega)
        clear f0
        go_enter Tryz.func7, Tryz.ntmps7
        go_wp2_with (go_at_call 16; refine (refNaN_c _ (by omega) (by omega) _).mono ?_; rintro e w' ⟨rfl, rfl⟩)
        go_ret
        exact ⟨ret_int (by rw [H.out, H2.out]), 0, rfl⟩
      · have H2 := hid (show plainCls l = 7 by simp [plainCls, f0]; omega)
        clear f0
        go_enter Tryz.func7, Tryz.ntmps7
        go_wp2_with (go_at_call 16; refine (refNaN_c _ (by omega) (by omega) _).mono ?_; rintro e w' ⟨rfl, rfl⟩)
        go_ret
        exact ⟨ret_int (by rw [H.out, H2.out]), 0, rfl⟩
  have e0' : (t == 0) = false := by simpa using e0
  by_cases e1 : t = 1
  · subst e1
    have H := hid (cls_t1 n h1 c2' ht')
    clear ht' e0
    go_enter Tryz.func7, Tryz.ntmps7
    go_wp2_with (go_at_call 16; refine (refNaN_c _ (by omega) (by omega) _).mono ?_; rintro e w' ⟨rfl, rfl⟩)
    go_ret
    exact ⟨ret_int H.out.symm, 0, rfl⟩
  have e1' : (t == 1) = false := by simpa using e1
  by_cases e2 : t = 2
  · subst e2
    have H0 := cls_t2 n h1 c2' ht'
    rw [hl] at H0
    have H := hid H0
    clear H0 ht' e0 e1
    obtain ⟨k, hk⟩ : ∃ k, l / 1099511627776 = k := ⟨_, rfl⟩
    obtain ⟨r, hr⟩ : ∃ r, l % 1099511627776 = r := ⟨_, rfl⟩
    have k0 : 0 ≤ k := by omega
    have k1 : k < 256 := by omega
    have r0 : 0 ≤ r := by omega
    by_cases c : 5 < k
    · have H2 := hid (txtOk_big l (by omega))
      have hd : decide (k ≤ 5) = false := by simpa using c
      go_enter Tryz.func7, Tryz.ntmps7
      go_wp2_with (first | (go_at_call 16; refine (refNaN_c _ (by omega) (by omega) _).mono ?_; rintro e w' ⟨rfl, rfl⟩) | (go_at_call 17; refine (power_i _ (by omega) (by omega) _).mono ?_; rintro e w' ⟨rfl, rfl⟩))
      go_quiet ((go_at_call 17; exact Calls.quiet_of_same (power_i _ (by omega) (by omega) _)))
      go_wp2
      go_ret
      exact ⟨ret_int (by rw [H.out, H2.out]), _, rfl⟩
    · have hd : decide (k ≤ 5) = true := by simp; omega
      by_cases d : r < 2 ^ (8 * k).toNat
      · have H2 := hid (txt_lt l k (by omega) hk (by rw [hr]; exact d))
        go_enter Tryz.func7, Tryz.ntmps7
        go_wp2_with (first | (go_at_call 16; refine (refNaN_c _ (by omega) (by omega) _).mono ?_; rintro e w' ⟨rfl, rfl⟩) | (go_at_call 17; refine (power_i _ (by omega) (by omega) _).mono ?_; rintro e w' ⟨rfl, rfl⟩))
        go_quiet ((go_at_call 17; exact Calls.quiet_of_same (power_i _ (by omega) (by omega) _)))
        go_wp2
        go_ret
        exact ⟨ret_int (by rw [H.out, H2.out]), _, rfl⟩
      · have H2 := hid (txt_ge l k hk (by rw [hr]; exact d))
        go_enter Tryz.func7, Tryz.ntmps7
        go_wp2_with (first | (go_at_call 16; refine (refNaN_c _ (by omega) (by omega) _).mono ?_; rintro e w' ⟨rfl, rfl⟩) | (go_at_call 17; refine (power_i _ (by omega) (by omega) _).mono ?_; rintro e w' ⟨rfl, rfl⟩))
        go_quiet ((go_at_call 17; exact Calls.quiet_of_same (power_i _ (by omega) (by omega) _)))
        go_wp2
        go_ret
        exact ⟨ret_int (by rw [H.out, H2.out]), _, rfl⟩
  have e2' : (t == 2) = false := by simpa using e2
  by_cases e3 : t = 3
  · subst e3
    have H := hid (cls_t3 n h1 c2' ht')
    clear ht' e0 e1 e2
    go_enter Tryz.func7, Tryz.ntmps7
    go_wp2_with (go_at_call 16; refine (refNaN_c _ (by omega) (by omega) _).mono ?_; rintro e w' ⟨rfl, rfl⟩)
    go_ret
    exact ⟨ret_int H.out.symm, 0, rfl⟩
  · have H := hid (cls_t4 n h1 c2' (by omega))
    have e3' : (t == 3) = false := by simpa using e3
    clear ht' e0 e1 e2 e3
    go_enter Tryz.func7, Tryz.ntmps7
    go_wp2_with (go_at_call 16; refine (refNaN_c _ (by omega) (by omega) _).mono ?_; rintro e w' ⟨rfl, rfl⟩)
    go_ret
    exact ⟨ret_int H.out.symm, 0, rfl⟩
end Go.Proofs.YtgmimmdojkoppaaGreatDoor.W
/- Contracts of the reference's faces: each returns what package word's own does; the world has at most drawn. -/
namespace Go.Proofs.YtgmimmdojkoppaaGreatDoor.W
open Go.ChangeShapes Go.WideShapes Go.RowKit

set_option maxHeartbeats 400000 in
theorem refFromBool_c (b : Bool) (w : World) : Calls Tryz.prog 11 #[.bool b] w fun e w' => e = .returned (.int .u64 (boolW b)) ∧ w' = w := by
  cases b
  · go_enter Tryz.func11, Tryz.ntmps11
    go_wp2
    go_ret
    exact ⟨rfl, rfl⟩
  · go_enter Tryz.func11, Tryz.ntmps11
    go_wp2
    go_ret
    exact ⟨rfl, rfl⟩
end Go.Proofs.YtgmimmdojkoppaaGreatDoor.W
/- The contract of package word's ToText: it returns the text of every pattern that is one; the world has at most one block more. -/
namespace Go.Proofs.YtgmimmdojkoppaaGreatDoor.W
open Go.ChangeShapes Go.WideShapes Go.RowKit

theorem conv_tab (w : World) (b0 b1 b2 b3 b4 : Int) (len cap : Nat) (h : len ≤ 5) :
    (convert 66 9 (.slice (some ⟨w.heap.size, 0, none⟩) len cap)).run Tryz.prog (w.alloc (.cells #[.int .u8 b0, .int .u8 b1, .int .u8 b2, .int .u8 b3, .int .u8 b4] 129)) =
      .ok (.string (strOfNums ([b0, b1, b2, b3, b4].take len))) (w.alloc (.cells #[.int .u8 b0, .int .u8 b1, .int .u8 b2, .int .u8 b3, .int .u8 b4] 129)) := by
  refine run_convert_bytes_arg _ 66 5 Tryz.underlying66 Tryz.underlying5 w.heap.size 0 len cap ([b0, b1, b2, b3, b4].take len) (by simp; omega) ?_ 9 Tryz.underlying9
  intro i hi
  have hc : (w.alloc (.cells #[.int .u8 b0, .int .u8 b1, .int .u8 b2, .int .u8 b3, .int .u8 b4] 129)).cell? ⟨w.heap.size, 0 + i, none⟩ = #[Value.int .u8 b0, .int .u8 b1, .int .u8 b2, .int .u8 b3, .int .u8 b4][0 + i]? := by
    exact World.cell?_alloc_new w _ _ _
  rw [hc, List.getD_eq_getElem?_getD, List.getElem?_take_of_lt hi]
  match i, (show i < 5 by omega) with
  | 0, _ => rfl
  | 1, _ => rfl
  | 2, _ => rfl
  | 3, _ => rfl
  | 4, _ => rfl
theorem tab_eq (k r : Int) (k0 : 0 ≤ k) (k5 : k ≤ 5) (r0 : 0 ≤ r) (r1 : r < 1099511627776) :
    strOfNums ([r % 256, r / 256 % 256, r / 65536 % 256, r / 16777216 % 256, r / 4294967296].take k.toNat) = ⟨(decN k.toNat r.toNat).toArray⟩ := by
  obtain ⟨m, rfl⟩ := Int.eq_ofNat_of_zero_le r0
  obtain ⟨j, rfl⟩ := Int.eq_ofNat_of_zero_le k0
  have b0 : ((m : Int) % 256).toNat = m % 256 := by omega
  have b1 : ((m : Int) / 256 % 256).toNat = m / 256 % 256 := by omega
  have b2 : ((m : Int) / 65536 % 256).toNat = m / 256 / 256 % 256 := by omega
  have b3 : ((m : Int) / 16777216 % 256).toNat = m / 256 / 256 / 256 % 256 := by omega
  have b4 : ((m : Int) / 4294967296).toNat = m / 256 / 256 / 256 / 256 % 256 := by omega
  have hj : j < 6 := by omega
  rw [Int.toNat_natCast, Int.toNat_natCast]
  unfold strOfNums
  match j, hj with
  | 0, _ => simp [decN]
  | 1, _ => simp [decN, b0]
  | 2, _ => simp [decN, b0, b1]
  | 3, _ => simp [decN, b0, b1, b2]
  | 4, _ => simp [decN, b0, b1, b2, b3]
  | 5, _ => simp [decN, b0, b1, b2, b3, b4]
set_option maxHeartbeats 400000 in
theorem toText_c (n : Int) (h0 : 0 ≤ n) (h1 : n < 18446744073709551616) (w : World) :
    Calls Tryz.prog 48 #[.int .u64 n] w fun e w' => e = .returned (.tuple #[.string (toTxt n), .bool (cls n == 5)]) ∧ Below w.heap.size w w' := by
  by_cases c : cls n = 5
  · obtain ⟨i1, i2, i3⟩ := cls_is5 n c
    have c' : (cls n == 5) = true := by simpa using c
    simp [txtOk] at i3
    obtain ⟨k, hk⟩ : ∃ k, n % 281474976710656 / 1099511627776 = k := ⟨_, rfl⟩
    obtain ⟨r, hr⟩ : ∃ r, n % 1099511627776 = r := ⟨_, rfl⟩
    have k0 : 0 ≤ k := by omega
    have k5 : k ≤ 5 := by omega
    have r0 : 0 ≤ r := by omega
    have r1 : r < 1099511627776 := by omega
    have H := hid (show toTxt n = ⟨(decN k.toNat r.toNat).toArray⟩ by simp [toTxt, c, hk, hr])
    clear i1 i2 i3
    have kc := fun (w : World) => conv_tab w (r % 256) (r / 256 % 256) (r / 65536 % 256) (r / 16777216 % 256) (r / 4294967296) k.toNat 5 (by omega)
    go_enter Tryz.func48, Tryz.ntmps48
    go_wp2_with (first | (go_at_call 45; refine (class_c _ (by omega) (by omega) _).mono ?_; rintro e w' ⟨rfl, rfl⟩) | (go_at_call 88; refine (loadOf_c _ (by omega) (by omega) _).mono ?_; rintro e w' ⟨rfl, rfl⟩) | (go_at_call 91; refine (split_c _ (by omega) (by omega) _).mono ?_; rintro e w' ⟨rfl, rfl⟩))
    refine wp_loop_rounds 6 ?_
    rw [rounds_succ]
    go_wp2
    rw [rounds_succ]
    go_wp2
    rw [rounds_succ]
    go_wp2
    rw [rounds_succ]
    go_wp2
    rw [rounds_succ]
    go_wp2
    rw [rounds_succ]
    go_wp2
    go_ret2
    exact ⟨ret_sb (by rw [H.out, tab_eq k r k0 k5 r0 r1]) c'.symm, (Below.refl _ _).alloc (Nat.le_refl _) _⟩
  · have H := hid (show toTxt n = ByteArray.empty by simp [toTxt, c])
    have d : (cls n == 5) = false := by simpa using c
    have d' : (cls n != 5) = true := by simpa using c
    go_enter Tryz.func48, Tryz.ntmps48
    go_wp2_with (first | (go_at_call 45; refine (class_c _ (by omega) (by omega) _).mono ?_; rintro e w' ⟨rfl, rfl⟩))
    go_ret2
    exact ⟨ret_sb H.out.symm d.symm, Below.refl _ _⟩
end Go.Proofs.YtgmimmdojkoppaaGreatDoor.W
/- Package value: Unbox, of a string in a cell; of what stands in a word. -/
namespace Go.Proofs.YtgmimmdojkoppaaGreatDoor.W
open Go.ChangeShapes Go.WideShapes Go.RowKit Go.Shelf
set_option linter.unusedVariables false
section
variable {W W' : World} {hb sb : Nat} {vc : Value} {T : Nat → Prop} {H : List (Option Hc)} {u h : Nat}
theorem unboxCell_text (g : HLay W hb sb vc T H u h) (w : Nat) (hw : w < 18446744073709551616) (id : Nat) (hi : hit H w = some id) (t : ByteArray) (hc : H[id]? = some (some (.text (strB t)))) :
    Calls Tryz.prog 49 #[.pointer (some ⟨hb, 0, none⟩), .int .u64 w] W fun e w' => e = .returned (.tuple #[.agg #[.int .i64 4, .int .i64 0, .int .u64 0, .string t, .int .u64 0], .int .i64 0]) ∧ Below W.heap.size W w' :=
  unboxCell_thru4 g w hw id hi (.text (strB t)) hc rfl 0 t (fun w1 hB => get_text (g.below hB) w hw id hi t hc)
theorem unbox_text (g : HLay W hb sb vc T H u h) (w : Nat) (hw : w < 18446744073709551616) (hcl : cls (w : Int) = 6) (id : Nat) (hi : hit H w = some id) (t : ByteArray) (hc : H[id]? = some (some (.text (strB t)))) :
    Calls Tryz.prog 18 #[.pointer (some ⟨hb, 0, none⟩), .int .u64 w] W fun e w' => e = .returned (.tuple #[.agg #[.int .i64 4, .int .i64 0, .int .u64 0, .string t, .int .u64 0], .int .i64 0]) ∧ Below W.heap.size W w' := by
  have hB1 : Below W.heap.size W (W.alloc (.cells #[.int .i64 0, .int .i64 0, .int .u64 0, .string ⟨#[]⟩, .int .u64 0] 47)) := (Below.refl _ W).alloc (Nat.le_refl _) _
  have hs1 : (W.alloc (.cells #[.int .i64 0, .int .i64 0, .int .u64 0, .string ⟨#[]⟩, .int .u64 0] 47)).heap.size = W.heap.size + 1 := World.size_alloc ..
  have f1 := World.alloc_heap_new W (.cells #[.int .i64 0, .int .i64 0, .int .u64 0, .string ⟨#[]⟩, .int .u64 0] 47)
  have cc := fun W => class_c (w : Int) (by omega) (by omega) W
  rw [hcl] at cc
  have cu := unboxCell_text (g.below hB1) w hw id hi t hc
  have kp : Hid (∀ w4, Below (W.alloc (.cells #[.int .i64 0, .int .i64 0, .int .u64 0, .string ⟨#[]⟩, .int .u64 0] 47)).heap.size (W.alloc (.cells #[.int .i64 0, .int .i64 0, .int .u64 0, .string ⟨#[]⟩, .int .u64 0] 47)) w4 → w4.heap[W.heap.size]? = some (.cells #[.int .i64 0, .int .i64 0, .int .u64 0, .string ⟨#[]⟩, .int .u64 0] 47) ∧ Below W.heap.size W w4) := by
    show ∀ w4, _
    intro w4 hB4
    exact ⟨(hB4.block _ (by omega)).trans f1, hB1.trans (hB4.mono hB1.size)⟩
  clear g hc hcl
  go_enter Tryz.func18, Tryz.ntmps18
  go_upto_region 1 with fail
  generalize W.alloc (.cells #[.int .i64 0, .int .i64 0, .int .u64 0, .string ⟨#[]⟩, .int .u64 0] 47) = W1 at *
  go_wp2_with (first | (go_at_call 45; (with_reducible refine (cc _).mono ?_); rintro e w' ⟨rfl, hw⟩; (have hw' := hw.symm); subst hw'; clear hw) | (go_at_call 49; (with_reducible refine cu.mono ?_); rintro e w4 ⟨rfl, hB4⟩; clear cu; (obtain ⟨fR, hBf⟩ := kp.out w4 hB4); (have eR := fun j => cell_of_row w4 W.heap.size j _ _ _ fR); (have zR := (fun j => by simp [World.frozen?, fR] : ∀ j, w4.frozen? ⟨W.heap.size, j, none⟩ = false)); (have FR := hid fR); clear fR))
  refine bodyPost_ret (val_ret2 rfl _ _ W.heap.size _ _ _ _ _ (0, 0) rfl (five_set FR.out _ _ _ _ _)) rfl ?_
  exact ⟨rfl, five_below hBf (Nat.le_refl _) _ _ _ _ _⟩
theorem unbox_stext (t : ByteArray) (ht : t.size ≤ 5) (hp : Value) (W : World) :
    Calls Tryz.prog 18 #[hp, .int .u64 (txtW t)] W fun e w' => e = .returned (.tuple #[.agg #[.int .i64 4, .int .i64 0, .int .u64 0, .string t, .int .u64 0], .int .i64 0]) ∧ Below W.heap.size W w' := by
  (have hB1 : Below W.heap.size W (W.alloc (.cells #[.int .i64 0, .int .i64 0, .int .u64 0, .string ⟨#[]⟩, .int .u64 0] 47)) := (Below.refl _ W).alloc (Nat.le_refl _) _); (have hs1 : (W.alloc (.cells #[.int .i64 0, .int .i64 0, .int .u64 0, .string ⟨#[]⟩, .int .u64 0] 47)).heap.size = W.heap.size + 1 := World.size_alloc ..); (have f1 := World.alloc_heap_new W (.cells #[.int .i64 0, .int .i64 0, .int .u64 0, .string ⟨#[]⟩, .int .u64 0] 47))
  have hbd := cls_is5 _ (txtW_cls t ht)
  have cc := fun W => class_c (txtW t) (by omega) (by omega) W
  rw [txtW_cls t ht] at cc
  have ct := fun W => toText_c (txtW t) (by omega) (by omega) W
  rw [toTxt_txtW t ht, txtW_cls t ht] at ct
  generalize txtW t = x at *
  have kp : Hid (∀ w4, Below (W.alloc (.cells #[.int .i64 0, .int .i64 0, .int .u64 0, .string ⟨#[]⟩, .int .u64 0] 47)).heap.size (W.alloc (.cells #[.int .i64 0, .int .i64 0, .int .u64 0, .string ⟨#[]⟩, .int .u64 0] 47)) w4 → w4.heap[W.heap.size]? = some (.cells #[.int .i64 0, .int .i64 0, .int .u64 0, .string ⟨#[]⟩, .int .u64 0] 47) ∧ Below W.heap.size W w4) := by
    show ∀ w4, _
    intro w4 hB4
    exact ⟨(hB4.block _ (by omega)).trans f1, hB1.trans (hB4.mono hB1.size)⟩
  clear hbd
  go_enter Tryz.func18, Tryz.ntmps18
  go_upto_region 1 with fail
  generalize W.alloc (.cells #[.int .i64 0, .int .i64 0, .int .u64 0, .string ⟨#[]⟩, .int .u64 0] 47) = W1 at *
  go_wp2_with (first | (go_at_call 45; (with_reducible refine (cc _).mono ?_); rintro e w' ⟨rfl, hw⟩; (have hw' := hw.symm); subst hw'; clear hw) | (go_at_call 48; (with_reducible refine (ct _).mono ?_); rintro e w4 ⟨rfl, hB4⟩; clear ct; (obtain ⟨fR, hBf⟩ := kp.out w4 hB4); (have eR := fun j => cell_of_row w4 W.heap.size j _ _ _ fR); (have zR := (fun j => by simp [World.frozen?, fR] : ∀ j, w4.frozen? ⟨W.heap.size, j, none⟩ = false)); (have FR := hid fR); clear fR))
  refine bodyPost_ret (val_ret2 rfl _ _ W.heap.size _ _ _ _ _ (0, 0) rfl (five_set FR.out _ _ _ _ _)) rfl ?_
  exact ⟨rfl, five_below hBf (Nat.le_refl _) _ _ _ _ _⟩
theorem unbox_sint (i : Int) (hs : smallB i = true) (hp : Value) (W : World) :
    Calls Tryz.prog 18 #[hp, .int .u64 (intW i)] W fun e w' => e = .returned (.tuple #[.agg #[.int .i64 2, .int .i64 i, .int .u64 0, .string ⟨#[]⟩, .int .u64 0], .int .i64 0]) ∧ Below W.heap.size W w' := by
  (have hB1 : Below W.heap.size W (W.alloc (.cells #[.int .i64 0, .int .i64 0, .int .u64 0, .string ⟨#[]⟩, .int .u64 0] 47)) := (Below.refl _ W).alloc (Nat.le_refl _) _); (have hs1 : (W.alloc (.cells #[.int .i64 0, .int .i64 0, .int .u64 0, .string ⟨#[]⟩, .int .u64 0] 47)).heap.size = W.heap.size + 1 := World.size_alloc ..); (have f1 := World.alloc_heap_new W (.cells #[.int .i64 0, .int .i64 0, .int .u64 0, .string ⟨#[]⟩, .int .u64 0] 47))
  have hbd := intW_bd i hs
  have cc := fun W => class_c (intW i) (by omega) (by omega) W
  rw [intW_cls i hs] at cc
  have ct := fun W => toInt_c (intW i) (by omega) (by omega) W
  rw [toInt_intW i hs, intW_cls i hs] at ct
  generalize intW i = x at *
  clear hbd
  go_enter Tryz.func18, Tryz.ntmps18
  go_upto_region 1 with fail
  have eR := fun j => cell_of_row _ W.heap.size j _ _ _ f1
  have zR : ∀ j, (W.alloc (.cells #[.int .i64 0, .int .i64 0, .int .u64 0, .string ⟨#[]⟩, .int .u64 0] 47)).frozen? ⟨W.heap.size, j, none⟩ = false := fun j => by simp only [World.frozen?, f1]; simp
  have FR := hid f1
  have HB := hid hB1
  clear f1 hB1 hs1
  generalize W.alloc (.cells #[.int .i64 0, .int .i64 0, .int .u64 0, .string ⟨#[]⟩, .int .u64 0] 47) = W1 at *
  go_wp2_with (first | (go_at_call 45; (with_reducible refine (cc _).mono ?_); rintro e w' ⟨rfl, hw⟩; (have hw' := hw.symm); subst hw'; clear hw) | (go_at_call 47; (with_reducible refine (ct _).mono ?_); rintro e w' ⟨rfl, hw⟩; (have hw' := hw.symm); subst hw'; clear hw))
  refine bodyPost_ret (val_ret2 rfl _ _ W.heap.size _ _ _ _ _ (0, 0) rfl (five_set FR.out _ _ _ _ _)) rfl ?_
  exact ⟨rfl, five_below HB.out (Nat.le_refl _) _ _ _ _ _⟩
theorem unbox_flt (x : Int) (h0 : 0 ≤ x) (h1 : x < 18446744073709551616) (hx : cls x = 1) (hp : Value) (W : World) :
    Calls Tryz.prog 18 #[hp, .int .u64 x] W fun e w' => e = .returned (.tuple #[.agg #[.int .i64 3, .int .i64 0, .int .u64 x, .string ⟨#[]⟩, .int .u64 0], .int .i64 0]) ∧ Below W.heap.size W w' := by
  (have hB1 : Below W.heap.size W (W.alloc (.cells #[.int .i64 0, .int .i64 0, .int .u64 0, .string ⟨#[]⟩, .int .u64 0] 47)) := (Below.refl _ W).alloc (Nat.le_refl _) _); (have hs1 : (W.alloc (.cells #[.int .i64 0, .int .i64 0, .int .u64 0, .string ⟨#[]⟩, .int .u64 0] 47)).heap.size = W.heap.size + 1 := World.size_alloc ..); (have f1 := World.alloc_heap_new W (.cells #[.int .i64 0, .int .i64 0, .int .u64 0, .string ⟨#[]⟩, .int .u64 0] 47))
  have cc := fun W => class_c x (by omega) (by omega) W
  rw [hx] at cc
  clear hx
  go_enter Tryz.func18, Tryz.ntmps18
  go_upto_region 1 with fail
  have eR := fun j => cell_of_row _ W.heap.size j _ _ _ f1
  have zR : ∀ j, (W.alloc (.cells #[.int .i64 0, .int .i64 0, .int .u64 0, .string ⟨#[]⟩, .int .u64 0] 47)).frozen? ⟨W.heap.size, j, none⟩ = false := fun j => by simp only [World.frozen?, f1]; simp
  have FR := hid f1
  have HB := hid hB1
  clear f1 hB1 hs1
  generalize W.alloc (.cells #[.int .i64 0, .int .i64 0, .int .u64 0, .string ⟨#[]⟩, .int .u64 0] 47) = W1 at *
  go_wp2_with (go_at_call 45; (with_reducible refine (cc _).mono ?_); rintro e w' ⟨rfl, hw⟩; (have hw' := hw.symm); subst hw'; clear hw)
  refine bodyPost_ret (val_ret2 rfl _ _ W.heap.size _ _ _ _ _ (0, 0) rfl (five_set FR.out _ _ _ _ _)) rfl ?_
  exact ⟨rfl, five_below HB.out (Nat.le_refl _) _ _ _ _ _⟩
end
end Go.Proofs.YtgmimmdojkoppaaGreatDoor.W
/- Package text: order. -/
namespace Go.Proofs.YtgmimmdojkoppaaGreatDoor.W
open Go.ChangeShapes Go.WideShapes Go.RowKit
set_option linter.unusedVariables false
/-- how two rows of bytes stand to each other -/
def ordL : List Nat → List Nat → Int
  | [], [] => 0
  | [], _ :: _ => -1
  | _ :: _, [] => 1
  | a :: x, b :: y => if a = b then ordL x y else if a < b then -1 else 1
/-- as numbers -/
def cmpI (a b : Int) : Int := if a < b then -1 else if a > b then 1 else 0
theorem ordL_at (x y : List Nat) (k : Nat) (h : x.take k = y.take k) (hx : k ≤ x.length) (hy : k ≤ y.length) : ordL x y = ordL (x.drop k) (y.drop k) := by
  induction k generalizing x y with
  | zero => rfl
  | succ k ih =>
    cases x with
    | nil => simp at hx
    | cons a x => cases y with
      | nil => simp at hy
      | cons b y =>
        simp at h
        simp at hx hy
        rw [List.drop_succ_cons, List.drop_succ_cons, ← ih x y h.2 hx hy]
        show (if a = b then ordL x y else _) = _
        rw [if_pos h.1]
theorem ordL_end1 (x y : List Nat) (k : Nat) (h : x.take k = y.take k) (hx : k < x.length) (hy : k = y.length) : ordL x y = 1 := by
  rw [ordL_at x y k h (by omega) (by omega), List.drop_eq_nil_of_le (by omega : y.length ≤ k), List.drop_eq_getElem_cons hx]
  rfl
theorem ordL_ne (x y : List Nat) (k : Nat) (h : x.take k = y.take k) (a b : Nat) (hx : x[k]? = some a) (hy : y[k]? = some b) (hne : a ≠ b) : ordL x y = cmpI a b := by
  obtain ⟨lx, ex⟩ := List.getElem?_eq_some_iff.1 hx
  obtain ⟨ly, ey⟩ := List.getElem?_eq_some_iff.1 hy
  rw [ordL_at x y k h (by omega) (by omega), List.drop_eq_getElem_cons lx, List.drop_eq_getElem_cons ly, ex, ey]
  unfold ordL cmpI
  rw [if_neg hne]
  by_cases d : a < b
  · rw [if_pos d, if_pos (by omega)]
  · rw [if_neg d, if_neg (by omega), if_pos (by omega)]
theorem ordL_end (x y : List Nat) (h : x = y.take x.length) (hl : x.length ≤ y.length) : ordL x y = cmpI x.length y.length := by
  have h1 := ordL_at x y x.length (by rw [List.take_length]; exact h) (Nat.le_refl _) hl
  rw [h1, List.drop_length]
  by_cases c : x.length = y.length
  · rw [List.drop_eq_nil_of_le (by omega)]
    unfold cmpI ordL
    rw [if_neg (by omega), if_neg (by omega)]
  · rw [List.drop_eq_getElem_cons (by omega : x.length < y.length)]
    unfold cmpI ordL
    rw [if_pos (by omega)]
theorem cmpB_c (a b : Int) (W : World) : Calls Tryz.prog 258 #[.int .u8 a, .int .u8 b] W fun e w' => e = .returned (.int .i64 (cmpI a b)) ∧ w' = W := by
  unfold cmpI
  have cn : ∀ (a : Int) (w : World), Calls Tryz.prog 291 #[.int .u8 a] w fun e w' => e = .returned (.bool false) ∧ w' = w := by
    intro a w
    go_enter Tryz.func291, Tryz.ntmps291
    go_wp2
    go_ret
    exact ⟨by simp, rfl⟩
  by_cases h1 : a < b
  · rw [if_pos h1]
    go_enter Tryz.func258, Tryz.ntmps258
    go_wp2_with (go_at_call 291; (with_reducible refine (cn _ _).mono ?_); rintro e w' ⟨rfl, hw⟩; (have hw' := hw.symm); subst hw'; clear hw)
    go_ret
    exact ⟨rfl, rfl⟩
  · rw [if_neg h1]
    by_cases h2 : a > b
    · rw [if_pos h2]
      go_enter Tryz.func258, Tryz.ntmps258
      go_wp2_with (go_at_call 291; (with_reducible refine (cn _ _).mono ?_); rintro e w' ⟨rfl, hw⟩; (have hw' := hw.symm); subst hw'; clear hw)
      go_ret
      exact ⟨rfl, rfl⟩
    · rw [if_neg h2]
      go_enter Tryz.func258, Tryz.ntmps258
      go_wp2_with (go_at_call 291; (with_reducible refine (cn _ _).mono ?_); rintro e w' ⟨rfl, hw⟩; (have hw' := hw.symm); subst hw'; clear hw)
      go_ret
      exact ⟨rfl, rfl⟩
theorem cmpN_c (a b : Int) (W : World) : Calls Tryz.prog 259 #[.int .i64 a, .int .i64 b] W fun e w' => e = .returned (.int .i64 (cmpI a b)) ∧ w' = W := by
  unfold cmpI
  have cn : ∀ (a : Int) (w : World), Calls Tryz.prog 292 #[.int .i64 a] w fun e w' => e = .returned (.bool false) ∧ w' = w := by
    intro a w
    go_enter Tryz.func292, Tryz.ntmps292
    go_wp2
    go_ret
    exact ⟨by simp, rfl⟩
  by_cases h1 : a < b
  · rw [if_pos h1]
    go_enter Tryz.func259, Tryz.ntmps259
    go_wp2_with (go_at_call 292; (with_reducible refine (cn _ _).mono ?_); rintro e w' ⟨rfl, hw⟩; (have hw' := hw.symm); subst hw'; clear hw)
    go_ret
    exact ⟨rfl, rfl⟩
  · rw [if_neg h1]
    by_cases h2 : a > b
    · rw [if_pos h2]
      go_enter Tryz.func259, Tryz.ntmps259
      go_wp2_with (go_at_call 292; (with_reducible refine (cn _ _).mono ?_); rintro e w' ⟨rfl, hw⟩; (have hw' := hw.symm); subst hw'; clear hw)
      go_ret
      exact ⟨rfl, rfl⟩
    · rw [if_neg h2]
      go_enter Tryz.func259, Tryz.ntmps259
      go_wp2_with (go_at_call 292; (with_reducible refine (cn _ _).mono ?_); rintro e w' ⟨rfl, hw⟩; (have hw' := hw.symm); subst hw'; clear hw)
      go_ret
      exact ⟨rfl, rfl⟩
/-- the bytes of a string, as numbers -/
def byL (t : ByteArray) : List Nat := t.data.toList.map UInt8.toNat
theorem byL_len (t : ByteArray) : (byL t).length = t.size := by unfold byL; rw [List.length_map]; rfl
theorem byL_get (t : ByteArray) (k : Nat) (h : k < t.size) : (byL t)[k]? = some (t[k]).toNat := by
  unfold byL
  rw [List.getElem?_map]
  have h2 : k < t.data.size := h
  have : t.data.toList[k]? = some t[k] := by
    rw [Array.getElem?_toList, Array.getElem?_eq_getElem h2]; rfl
  rw [this]; rfl
theorem take_byL {x y : List Nat} {k a : Nat} (h : x.take k = y.take k) (hx : x[k]? = some a) (hy : y[k]? = some a) : x.take (k + 1) = y.take (k + 1) := by
  rw [List.take_add_one, List.take_add_one, h, hx, hy]
set_option maxRecDepth 100000 in
theorem order_c (x y : ByteArray) (hx : x.size ≤ 100000000) (hy : y.size ≤ 100000000) (W : World) : Calls Tryz.prog 208 #[.string x, .string y] W fun e w' => e = .returned (.int .i64 (ordL (byL x) (byL y))) ∧ Below W.heap.size W w' := by
  have hcv : (convert 9 66 (.string x)).run Tryz.prog W = .ok (.slice (some ⟨W.heap.size, 0, none⟩) x.size (grownCap W x.size 0 5)) (Lib.bytesWorld W 5 x) := Lib.run_convert_string_bytes W _ _ _ x Tryz.underlying9 Tryz.underlying66 Tryz.underlying5
  have hBb : Below W.heap.size W (Lib.bytesWorld W 5 x) := ⟨rfl, rfl, rfl, by rw [Lib.bytesWorld_size]; omega, fun k hk => Lib.bytesWorld_at_old W _ x k hk⟩
  have hcell : ∀ i, i < x.size → ∃ n : Nat, (byL x)[i]? = some n ∧ (Lib.bytesWorld W 5 x).cell? ⟨W.heap.size, i, none⟩ = some (.int .u8 (n : Nat)) := by
    intro i hi
    refine ⟨_, byL_get x i hi, ?_⟩
    rw [Lib.bytesWorld_cell W _ x i (by omega)]
    have hi2 : i < x.data.size := hi
    simp
    rw [Array.getElem?_eq_getElem hi2]
    rfl
  generalize grownCap W x.size 0 5 = cp at *
  generalize Lib.bytesWorld W 5 x = Wb at *
  go_enter Tryz.func208, Tryz.ntmps208
  go_wp2
  have LX := hid (byL_len x)
  have LY := hid (byL_len y)
  have HC := hid hcell
  clear hcell
  go_loop [10] (fun ii => ∃ k : Nat, k ≤ x.size ∧ k ≤ y.size ∧ (byL x).take k = (byL y).take k ∧ ii = .int .i64 k) (fun ii => x.size - (intOf ii).toNat)
  case atStart => exact ⟨0, Nat.zero_le _, Nat.zero_le _, rfl, rfl⟩
  case round =>
    obtain ⟨k, hkx, hky, htk, rfl⟩ := hrel
    have w1 : IntKind.i64.wrap ((k : Int) + 1) = (k : Int) + 1 := by rw [IntKind.wrap_i64]; omega
    by_cases hlt : k < x.size
    · obtain ⟨xk, hxk, hc⟩ := HC.out k hlt
      have k0 : (0 : Int) ≤ k := by omega
      have k1 : (k : Int) < x.size := by omega
      by_cases hy1 : k = y.size
      · have HR := hid (ordL_end1 (byL x) (byL y) k htk (by rw [LX.out]; omega) (by rw [LY.out]; omega))
        clear htk hlt hkx hky hxk w1 k0
        subst hy1
        go_wp2
        go_ret
        exact ⟨by rw [HR.out]; rfl, hBb⟩
      · have g1 : ¬ (k : Int) = y.size := by omega
        have hlt2 : k < y.size := by omega
        have hyk := byL_get y k hlt2
        obtain ⟨yk, eyk⟩ : ∃ n, (y[k]).toNat = n := ⟨_, rfl⟩
        rw [eyk] at hyk
        by_cases heq : xk = yk
        · subst heq
          have htk2 := hid (take_byL htk hxk hyk)
          have HL := hid hlt
          have HL2 := hid hlt2
          clear htk hyk hlt hkx hky hy1 hxk
          go_wp2
          go_round
          case rel => exact ⟨k + 1, HL.out, HL2.out, htk2.out, by go_num⟩
          case measure => show x.size - (k + 1 : Int).toNat < x.size - (k : Int).toNat; have := HL.out; omega
        · have HR := hid (ordL_ne (byL x) (byL y) k htk xk yk hxk hyk heq)
          have hne : ¬ ((xk : Nat) : Int) = ((yk : Nat) : Int) := by omega
          clear htk hyk hlt hkx hky hy1 hxk heq
          go_wp2_with (go_at_call 258; (with_reducible refine (cmpB_c _ _ _).mono ?_); rintro e w' ⟨rfl, hw⟩; (have hw' := hw.symm); subst hw'; clear hw)
          go_ret
          exact ⟨by rw [HR.out]; rfl, hBb⟩
    · have k1 : ¬ (k : Int) < x.size := by omega
      have hr := ordL_end (byL x) (byL y) (by have e := htk; rw [List.take_of_length_le (by rw [LX.out]; omega)] at e; rw [LX.out, show x.size = k by omega]; exact e) (by rw [LX.out, LY.out]; omega)
      rw [LX.out, LY.out] at hr
      have HR := hid hr
      clear htk hr hlt hkx hky
      go_wp2_with (go_at_call 259; (with_reducible refine (cmpN_c _ _ _).mono ?_); rintro e w' ⟨rfl, hw⟩; (have hw' := hw.symm); subst hw'; clear hw)
      go_ret
      exact ⟨by rw [HR.out]; rfl, hBb⟩
end Go.Proofs.YtgmimmdojkoppaaGreatDoor.W
