import Derived.Test.YtgkakflnmpoadaaGreatDoorBase14
/- OpsBack: the walk. -/
namespace Go.Proofs.YtgkakflnmpoadaaGreatDoor.W.Nu
open Go.ChangeShapes Go.WideShapes Go.RowKit Go.Shelf
set_option linter.unusedVariables false
theorem nd_flt (a : Bool) (u : Int) : Go.Proofs.YtgkakflnmpoadaaGreatDoor.W.fltW (nd a u) = nd a u := by
  unfold nd
  split
  · decide
  · exact Go.Proofs.YtgkakflnmpoadaaGreatDoor.W.fltW_fltW u
theorem nd_cls (a : Bool) (u : Int) : a = false → Go.Proofs.YtgkakflnmpoadaaGreatDoor.W.cls (nd a u) = 1 := by
  rintro rfl
  exact fltW_cls u
theorem wrap_there (x : Nat) (hx : x < 18446744073709551616) : ∃ t : Int, IntKind.i64.wrap (x : Int) = t ∧ IntKind.u64.wrap t = (x : Int) ∧ -9223372036854775808 ≤ t ∧ t ≤ 9223372036854775807 := by
  have e1 : ∀ n : Int, IntKind.i64.wrap n = wrap64 n := fun n => by
    unfold IntKind.wrap wrap64
    simp [IntKind.signed, IntKind.bits]
    omega
  have e2 : ∀ n : Int, IntKind.u64.wrap n = n % 18446744073709551616 := fun n => by
    unfold IntKind.wrap
    simp [IntKind.signed, IntKind.bits]
  refine ⟨_, rfl, ?_, ?_, ?_⟩
  · rw [e2, e1]; unfold wrap64; omega
  · rw [e1]; unfold wrap64; omega
  · rw [e1]; unfold wrap64; omega
set_option maxRecDepth 100000 in
set_option maxHeartbeats 4000000 in
theorem back_core (a : Bool) (i u : Int) (i0 : -9223372036854775808 ≤ i) (i1 : i ≤ 9223372036854775807) (u0 : 0 ≤ u) (u1 : u < 18446744073709551616) (W : World) (ht : Q.Tabs W) :
    Calls Tryz.prog 3 #[.agg #[.bool a, .int .i64 i, .int .u64 u]] W fun e w' => e = .returned (.bool true) ∧ Below W.heap.size W w' := by
  have hP : Below W.heap.size W (W.alloc (.cells #[.bool a, .int .i64 i, .int .u64 u] 24)) := (Below.refl _ W).alloc (Nat.le_refl _) _
  have fA := World.cell?_alloc_new W #[.bool a, .int .i64 i, .int .u64 u] 24
  have RG := hid (And.intro (And.intro i0 i1) (And.intro u0 u1))
  have HT := hid ht
  have FU := hid (And.intro (nd_flt a u) (nd_cls a u))
  clear i0 i1 u0 u1 ht
  go_enter Tryz.func3, Tryz.ntmps3
  go_upto_region 1 with fail
  have cn := hf_new hP 100 (by decide)
  rw [show ((100 : Nat) : Int) = 100 from rfl] at cn
  have LA := hid (show W.heap.size < (W.alloc (.cells #[.bool a, .int .i64 i, .int .u64 u] 24)).heap.size by rw [World.size_alloc]; omega)
  clear hP
  generalize hbA : W.heap.size = bA at fA LA ⊢
  generalize W.alloc (.cells #[.bool a, .int .i64 i, .int .u64 u] 24) = Wa at *
  have HBA := hid hbA
  clear hbA
  go_upto_region 4 with (go_at_call 4; (with_reducible refine cn.mono ?_); rintro e W1 ⟨hb, rfl, q1, hB1⟩; clear cn)
  replace fA := cells_keep hB1 LA.out fA
  have zA := hid (show bA < W1.heap.size from Nat.lt_of_lt_of_le LA.out hB1.size)
  have c1 := lbox_n q1 (.slice none 0 0) [] (words_nil' W1) a i u RG.out.1.1 RG.out.1.2 RG.out.2.1 RG.out.2.2 (by decide) (by decide)
  clear hB1 q1
  go_upto_region 5 with (go_at_call 5; (with_reducible refine c1.mono ?_); rintro e W2 ⟨x, H2, rfl, q2, hE2, hx2, hs2, hl2, hU2⟩; clear c1)
  replace fA := cells_upd hU2 LA.out zA.out fA
  replace zA := hid (Nat.lt_of_lt_of_le zA.out hU2.size)
  have s0 : sumH [] = 0 := rfl
  have SL := hid (show sumH H2 ≤ 2 ∧ H2.length ≤ 1 from ⟨by omega, hl2⟩)
  clear s0
  have XN := hid hx2
  clear hE2 hs2 hl2 hU2 hx2
  generalize nw a i = I at *
  generalize nd a u = U at *
  have XL := hid XN.out.lt
  have XI := hid XN.out.inN
  have XS := hid XN.out.shape
  go_upto_region 8 with fail
  obtain ⟨K3, q3, kr, kk3⟩ := hf_aside q2 (.cells #[.int .u64 (x : Nat)] 22)
  have r0 : (W2.alloc (.cells #[.int .u64 (x : Nat)] 22)).cell? ⟨W2.heap.size, 0, none⟩ = some (.int .u64 (x : Nat)) := World.cell?_alloc_new W2 #[.int .u64 (x : Nat)] 22 0
  have bX : Below W2.heap.size W2 (W2.alloc (.cells #[.int .u64 (x : Nat)] 22)) := (Below.refl _ W2).alloc (Nat.le_refl _) _
  replace fA := cells_keep bX zA.out fA
  replace zA := hid (Nat.lt_of_lt_of_le zA.out bX.size)
  have KA := hid (kk3 _ LA.out)
  have KR := hid kr
  have q := hid q3
  clear bX kk3 kr q3 q2 LA
  generalize W2.heap.size = rb at *
  generalize W2.alloc (.cells #[.int .u64 (x : Nat)] 22) = Wt at *
  have bF : Below Wt.heap.size Wt (Wt.alloc (.cells #[.int .u64 (x : Nat)] 22)) := (Below.refl _ Wt).alloc (Nat.le_refl _) _
  have ct := (bin_text (q.out.below' bF) HT.out x Wt.heap.size a I U XN.out (World.cell?_alloc_new Wt #[.int .u64 (x : Nat)] 22 0) (.slice (some ⟨rb, 0, none⟩) 1 1) [x] (words_of1 (cell_keep bF r0) XL.out) (by simp) (by have := SL.out; omega) (by have := SL.out; omega)).mono (fun e w' h => BPost.on bF h)
  clear bF
  go_upto_region 9 with (go_at_call 6; (with_reducible refine ct.mono ?_); rintro e Wt ⟨t, H3, rfl, q4, hE4, hT4, hs4, hl4, ha4, htl, hUk⟩; clear ct)
  (replace r0 := cell_upd hUk KR.out r0); (replace fA := cells_upd hUk KA.out zA.out fA); (replace zA := hid (Nat.lt_of_lt_of_le zA.out hUk.size)); clear hUk
  replace q := hid q4
  replace XN := hid (XN.out.ext hE4)
  have TX := hid hT4
  have TL := hid htl
  have nl : nT (tx a I U) ≤ 5 := by
    have := tx_len a I U XI.out
    unfold nT tneed
    split <;> omega
  replace SL := hid (show sumH H3 ≤ 7 ∧ H3.length ≤ 2 from ⟨by have := SL.out; omega, by have := SL.out; omega⟩)
  clear q4 hE4 hT4 hs4 hl4 ha4 htl nl
  have bF : Below Wt.heap.size Wt (Wt.alloc (.cells #[.int .u64 (t : Nat)] 22)) := (Below.refl _ Wt).alloc (Nat.le_refl _) _
  have ct := (bin_num (q.out.below' bF) HT.out t Wt.heap.size a I U XI.out XS.out FU.out.1 FU.out.2 TX.out (World.cell?_alloc_new Wt #[.int .u64 (t : Nat)] 22 0) (.slice (some ⟨rb, 0, none⟩) 1 1) [x] (words_of1 (cell_keep bF r0) XL.out) (by simp) (by have := SL.out; omega) (by have := SL.out; omega)).mono (fun e w' h => BPost.on bF h)
  clear bF
  go_upto_region 10 with (go_at_call 6; (with_reducible refine ct.mono ?_); rintro e Wt ⟨y, H4, rfl, q4, hE4, hY4, hs4, hl4, ha4, hyl, hUk⟩; clear ct)
  (replace r0 := cell_upd hUk KR.out r0); (replace fA := cells_upd hUk KA.out zA.out fA); (replace zA := hid (Nat.lt_of_lt_of_le zA.out hUk.size)); clear hUk
  replace q := hid q4
  replace XN := hid (XN.out.ext hE4)
  replace TX := hid (TX.out.ext hE4)
  have YN := hid hY4
  have nl : (if a = true then nI I else 0) ≤ 2 := by
    have := nI_le I
    split <;> omega
  replace SL := hid (show sumH H4 ≤ 9 ∧ H4.length ≤ 3 from ⟨by have := SL.out; omega, by have := SL.out; omega⟩)
  clear q4 hE4 hY4 hs4 hl4 ha4 hyl nl
  have cS := same_v Wt hb x y (kV a) I U (unbox_n q.out.2.choose_spec.1 x a I U XN.out) (fun w hB => unbox_n (q.out.below' hB).2.choose_spec.1 y a I U YN.out)
  go_upto_region 11 with (go_at_call 7; (with_reducible refine cS.mono ?_); rintro e Wt ⟨rfl, hBk⟩; clear cS; (replace r0 := cell_keep hBk r0); (replace fA := cells_keep hBk zA.out fA); (replace zA := hid (Nat.lt_of_lt_of_le zA.out hBk.size)); (replace q := hid (q.out.below' hBk)); clear hBk)
  go_upto_region 13 with fail
  clear YN
  have cT := Told_g Wt hb x (kV a) I U ⟨#[]⟩ (tx a I U) (unbox_n q.out.2.choose_spec.1 x a I U XN.out) (fun w hB => told_n a I U XS.out _ w (fun w3 h3 => text_w HT.out a I U XI.out w3 (bel3 q.out.bel hB h3)))
  have cU := fun w => fun (hB : Below Wt.heap.size Wt w) => Told_txt w hb t (tx a I U) (unbox_txt (q.out.below' hB).2.choose_spec.1 t _ TX.out)
  replace cU := hid cU
  generalize tx a I U = T at *
  go_upto_region 14 with (go_at_call 8; (with_reducible refine cT.mono ?_); rintro e Wt ⟨rfl, hBk⟩; clear cT; (replace cU := cU.out _ hBk); (replace r0 := cell_keep hBk r0); (replace fA := cells_keep hBk zA.out fA); (replace zA := hid (Nat.lt_of_lt_of_le zA.out hBk.size)); (replace q := hid (q.out.below' hBk)); clear hBk)
  go_upto_region 15 with (go_at_call 8; (with_reducible refine cU.mono ?_); rintro e Wt ⟨rfl, hBk⟩; clear cU; (replace r0 := cell_keep hBk r0); (replace fA := cells_keep hBk zA.out fA); (replace zA := hid (Nat.lt_of_lt_of_le zA.out hBk.size)); (replace q := hid (q.out.below' hBk)); clear hBk)
  go_upto_region 17 with fail
  have bF : Below Wt.heap.size Wt (Wt.alloc (.cells #[.int .u64 (x : Nat)] 22)) := (Below.refl _ Wt).alloc (Nat.le_refl _) _
  cases a with
  | true =>
    have hI : IsInt H4 x I := by
      rcases XN.out with ⟨_, _, h, _⟩ | ⟨h, _⟩
      · exact h
      · cases h
    have cb := (bin_bits_no (q.out.below' bF) x Wt.heap.size I hI (World.cell?_alloc_new Wt #[.int .u64 (x : Nat)] 22 0) (.slice (some ⟨rb, 0, none⟩) 1 1) [x] (words_of1 (cell_keep bF r0) XL.out) (by simp)).mono (fun e w' h => (⟨h.1, bF.trans (h.2.mono bF.size)⟩ : _ ∧ Below Wt.heap.size Wt w'))
    clear bF hI
    go_upto_region 18 with (go_at_call 6; (with_reducible refine cb.mono ?_); rintro e Wt ⟨rfl, hBk⟩; clear cb; (replace r0 := cell_keep hBk r0); (replace fA := cells_keep hBk zA.out fA); (replace zA := hid (Nat.lt_of_lt_of_le zA.out hBk.size)); (replace q := hid (q.out.below' hBk)); clear hBk)
    have HB := hid q.out.bel
    clear q r0
    go_wp2_with (go_at_call 9; (with_reducible refine (awake10_c _).mono ?_); rintro e We ⟨rfl, hBe⟩)
    go_ret
    exact ⟨rfl, HB.out.trans (hBe.mono HB.out.size)⟩
  | false =>
    have hU : U = (x : Int) := by
      rcases XN.out with ⟨h, _⟩ | ⟨_, _, h, _⟩
      · cases h
      · exact h.symm
    have hI : I = 0 := by
      rcases XS.out with ⟨h, _⟩ | ⟨_, h⟩
      · cases h
      · exact h
    subst hU hI
    obtain ⟨b', hb1, hb2, hb3, hb4⟩ := wrap_there x XL.out
    have cb := (bin_bits (q.out.below' bF) x Wt.heap.size b' hb1 hb3 hb4 XN.out (World.cell?_alloc_new Wt #[.int .u64 (x : Nat)] 22 0) (.slice (some ⟨rb, 0, none⟩) 1 1) [x] (words_of1 (cell_keep bF r0) XL.out) (by simp) (by have := SL.out; omega) (by have := SL.out; omega)).mono (fun e w' h => BPost.on bF h)
    have W2 := hid hb2
    clear bF hb1 hb2 hb3 hb4
    go_upto_region 18 with (go_at_call 6; (with_reducible refine cb.mono ?_); rintro e Wt ⟨b, H5, rfl, q4, hE4, hb5, hs4, hl4, ha4, hbl, hUk⟩; clear cb)
    (replace r0 := cell_upd hUk KR.out r0); (replace fA := cells_upd hUk KA.out zA.out fA); (replace zA := hid (Nat.lt_of_lt_of_le zA.out hUk.size)); clear hUk
    replace q := hid q4
    have BI := hid hb5
    have BL := hid hbl
    clear q4 hE4 hb5 hs4 hl4 ha4 hbl
    go_upto_region 20 with fail
    have bD : Below Wt.heap.size Wt (Wt.alloc (.cells #[.int .u64 (b : Nat)] 22)) := (Below.refl _ Wt).alloc (Nat.le_refl _) _
    obtain ⟨g, gc, Wv, hrun, hBv, hwv⟩ := app2k (Wt.alloc (.cells #[.int .u64 (b : Nat)] 22)) rb x b 31 (cell_keep bD r0) XL.out BL.out
    have hBw := bD.trans (hBv.mono bD.size)
    have cf := bin_from (q.out.below' hBw) b Wt.heap.size b' (x : Int) (Int.natCast_nonneg x) (by have := XL.out; omega) W2.out BI.out (cell_keep hBv (World.cell?_alloc_new Wt #[.int .u64 (b : Nat)] 22 0)) (.slice (some ⟨g, 0, none⟩) 2 gc) [x, b] hwv (by simp)
    rw [FU.out.1] at cf
    rw [World.size_alloc] at hrun
    have HB := hid (q.out.below' hBw).bel
    clear bD hBv hwv hBw r0 q fA
    go_wp2_with (first | (at_builtin; refine Lib.wpList_append_run _ rfl (.tmp 121) (.tmp 123) 31 31 rfl _ _ (by simp [Act.eval]) (by simp [Act.eval]) _ _ hrun ?_) | (go_at_call 6; (with_reducible refine cf.mono ?_); rintro e Wz ⟨rfl, hBz⟩; clear cf) | (go_at_call 9; (with_reducible refine (awake10_c _).mono ?_); rintro e We ⟨rfl, hBe⟩))
    go_ret
    exact ⟨rfl, HB.out.trans ((hBz.trans (hBe.mono hBz.size)).mono HB.out.size)⟩
theorem opsBack_walk (b0 : Bool) (i0 u0 : Int) (x0 : (Lit.int .i64 i0).wf = true) (y0 : (Lit.int .u64 u0).wf = true) (W : World) (ht : Q.Tabs W) : Calls Tryz.prog 3 #[.agg #[.bool b0, .int .i64 i0, .int .u64 u0]] W fun e w' => e = .returned (.bool true) ∧ Below W.heap.size W w' :=
  back_core b0 i0 u0 (wf_i64' x0).1 (wf_i64' x0).2 (wf_u64' y0).1 (wf_u64' y0).2 W ht
end Go.Proofs.YtgkakflnmpoadaaGreatDoor.W.Nu
