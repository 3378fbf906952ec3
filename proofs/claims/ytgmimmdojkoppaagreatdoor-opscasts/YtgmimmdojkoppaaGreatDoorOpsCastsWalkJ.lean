import Derived.Test.YtgmimmdojkoppaaGreatDoorO9bJ
/- OpsCasts: the walk. -/
namespace Go.Proofs.YtgmimmdojkoppaaGreatDoor.W.Nu
open Go.ChangeShapes Go.WideShapes Go.RowKit Go.Shelf
set_option linter.unusedVariables false
theorem below_two {A B C : World} (h : Below A.heap.size A B) (g : Below B.heap.size B C) : Below A.heap.size A C := h.trans (g.mono h.size)
theorem one_word (H : List (Option Hc)) : IsNum H 18444773748872577025 true 1 0 := .inl ⟨rfl, rfl, .inl ⟨by decide, by decide⟩, by decide, by decide⟩
theorem sub_one (D : Int) : subR false 0 D true 1 0 = okD (opI .sub D (fromI 1)) := rfl
theorem add_one (D : Int) : addR false 0 D true 1 0 = okD (opI .add D (fromI 1)) := rfl
set_option maxRecDepth 100000 in
set_option maxHeartbeats 4000000 in
theorem casts_core (i bi : Int) (i0 : -9223372036854775808 ≤ i) (i1 : i ≤ 9223372036854775807) (b0 : 0 ≤ bi) (b1 : bi < 18446744073709551616) (hin : (¬ i ≥ -9007199254740992) ∨ (i ≥ -9007199254740992 ∧ ¬ i ≤ 9007199254740992) ∨ (i ≥ -9007199254740992 ∧ i ≤ 9007199254740992)) (W : World) :
    Calls Tryz.prog 3 #[.int .i64 i, .int .u64 bi] W fun e w' => e = .returned (.bool true) ∧ Below W.heap.size W w' := by
  have cn := hf_new (Below.refl W.heap.size W) 100 (by decide)
  rw [show ((100 : Nat) : Int) = 100 from rfl] at cn
  have gf := fltW_bd (fromI i) (fromI_range i).1 (fromI_range i).2
  obtain ⟨f, hfe⟩ : ∃ f : Nat, Go.Proofs.YtgmimmdojkoppaaGreatDoor.W.fltW (fromI i) = (f : Int) := ⟨(Go.Proofs.YtgmimmdojkoppaaGreatDoor.W.fltW (fromI i)).toNat, (Int.toNat_of_nonneg gf.1).symm⟩
  have gd := fltW_bd bi b0 b1
  have FF := hid (show Go.Proofs.YtgmimmdojkoppaaGreatDoor.W.fltW (fromI i) = (f : Int) ∧ Go.Proofs.YtgmimmdojkoppaaGreatDoor.W.cls (f : Int) = 1 ∧ f < 18446744073709551616 from ⟨hfe, by rw [← hfe]; exact fltW_cls _, by omega⟩)
  have DD := hid (show 0 ≤ Go.Proofs.YtgmimmdojkoppaaGreatDoor.W.fltW bi ∧ Go.Proofs.YtgmimmdojkoppaaGreatDoor.W.fltW bi < 18446744073709551616 from gd)
  have RG := hid (And.intro (And.intro i0 i1) (And.intro b0 b1))
  have HI := hid hin
  clear i0 i1 b0 b1 gf gd hfe hin
  go_enter Tryz.func3, Tryz.ntmps3
  go_upto_region 4 with (go_at_call 4; (with_reducible refine cn.mono ?_); rintro e W1 ⟨hb, rfl, q1, hB1⟩; clear cn)
  have c1 := lbox_w q1 (.slice none 0 0) [] (words_nil' W1) i 0 RG.out.1.1 RG.out.1.2 (by decide) (by decide)
  clear hB1 q1
  go_upto_region 5 with (go_at_call 5; (with_reducible refine c1.mono ?_); rintro e W2 ⟨x, H2, rfl, q2, hE2, hx2, hs2, hl2, ha2, hxl, hU2⟩; clear c1)
  have s2 : sumH H2 ≤ 2 := by have : sumH [] = 0 := rfl
                              have := nI_le i
                              omega
  have l2 : H2.length ≤ 1 := hl2
  have bX : Below W2.heap.size W2 (W2.alloc (.cells #[.int .u64 (x : Nat)] 22)) := (Below.refl _ W2).alloc (Nat.le_refl _) _
  have c2 := lbox_d (q2.below' bX) (.slice (some ⟨W2.heap.size, 0, none⟩) 1 1) 0 bi RG.out.2.1 RG.out.2.2
  have HX := hid hx2
  have XL := hid hxl
  clear hE2 hs2 hl2 ha2 hU2 bX q2 hx2 hxl
  go_upto_region 6 with (go_at_call 5; (with_reducible refine c2.mono ?_); rintro e W3 ⟨d, H3, rfl, q3, hE3, hd3, hs3, hl3, ha3, hdl, hU3⟩; (have HD := hid hd3); clear c2 hd3)
  have SL := hid (show sumH H3 ≤ 2 ∧ H3.length ≤ 2 from ⟨by omega, by omega⟩)
  have hx := hid (HX.out.ext hE3)
  have XY := hid (And.intro XL.out hdl)
  clear hE3 hs3 hl3 ha3 hU3 s2 l2 HX hdl XL
  have CD := hid (show Go.Proofs.YtgmimmdojkoppaaGreatDoor.W.cls (d : Int) = 1 from by rw [HD.out]; exact fltW_cls bi)
  go_upto_region 9 with fail
  obtain ⟨K4, q4, kr, kk4⟩ := hf_aside q3 (.cells #[.int .u64 (x : Nat), .int .u64 (d : Nat)] 22)
  have e4 := World.cell?_alloc_new W3 #[.int .u64 (x : Nat), .int .u64 (d : Nat)] 22
  have r0 : (W3.alloc (.cells #[.int .u64 (x : Nat), .int .u64 (d : Nat)] 22)).cell? ⟨W3.heap.size, 0, none⟩ = some (.int .u64 (x : Nat)) := e4 0
  have r1 : (W3.alloc (.cells #[.int .u64 (x : Nat), .int .u64 (d : Nat)] 22)).cell? ⟨W3.heap.size, 1, none⟩ = some (.int .u64 (d : Nat)) := e4 1
  have KR := hid kr
  have Q := hid q4
  clear e4 q3 kk4 kr q4
  generalize W3.heap.size = rb at *
  generalize W3.alloc (.cells #[.int .u64 (x : Nat), .int .u64 (d : Nat)] 22) = Wt at *
  have bF : Below Wt.heap.size Wt (Wt.alloc (.cells #[.int .u64 (x : Nat)] 22)) := (Below.refl _ Wt).alloc (Nat.le_refl _) _
  have cf := (bin_float (Q.out.below' bF) x Wt.heap.size i hx.out (World.cell?_alloc_new Wt #[.int .u64 (x : Nat)] 22 0) (.slice (some ⟨rb, 0, none⟩) 2 2) [x, d] (words_of2 (cell_keep bF r0) (cell_keep bF r1) XY.out.1 XY.out.2) (by simp)).mono (fun e w' h => (⟨h.1, below_two bF h.2⟩ : _ ∧ Below Wt.heap.size Wt w'))
  rw [FF.out.1] at cf
  clear bF
  go_upto_region 10 with (go_at_call 6; (with_reducible refine cf.mono ?_); rintro e Wt ⟨rfl, hBk⟩; clear cf; (replace r0 := cell_keep hBk r0); (replace r1 := cell_keep hBk r1); (replace Q := hid (Q.out.below' hBk)); clear hBk)
  have cC := fun w => class_b (f : Int) (Int.natCast_nonneg f) (by have := FF.out.2.2; omega) 1 FF.out.2.1 w
  go_upto_region 12 with (go_at_call 7; (with_reducible refine (cC _).mono ?_); rintro e Wt ⟨rfl, hBk⟩; clear cC; (replace r0 := cell_keep hBk r0); (replace r1 := cell_keep hBk r1); (replace Q := hid (Q.out.below' hBk)); clear hBk)
  have SM : Hid (sumH H3 ≤ 4 ∧ H3.length ≤ 3) := hid ⟨by have := SL.out; omega, by have := SL.out; omega⟩
  rcases HI.out with h1 | ⟨h1, h2⟩ | ⟨h1, h2⟩
  rotate_left 2
  focus
    go_upto_region 13 with fail
    obtain ⟨cb1, cb2, cb3⟩ := cast_back i h1 h2
    have fe : (f : Int) = fromI i := by rw [← FF.out.1]; exact cb3
    have bF : Below Wt.heap.size Wt (Wt.alloc (.cells #[.int .u64 (f : Nat)] 22)) := (Below.refl _ Wt).alloc (Nat.le_refl _) _
    have ci := (bin_int (Q.out.below' bF) f Wt.heap.size i FF.out.2.1 FF.out.2.2 RG.out.1.1 RG.out.1.2 (fun w => by rw [fe]; exact softTrunc_in _ _ cb1 cb2 w) (World.cell?_alloc_new Wt #[.int .u64 (f : Nat)] 22 0) (.slice (some ⟨rb, 0, none⟩) 2 2) [x, d] (words_of2 (cell_keep bF r0) (cell_keep bF r1) XY.out.1 XY.out.2) (by simp) (by have := SL.out; omega) (by have := SL.out; omega)).mono (fun e w' h => BPost.on bF h)
    clear bF cb1 cb2 cb3 fe
    go_upto_region 14 with (go_at_call 6; (with_reducible refine ci.mono ?_); rintro e Wt ⟨y, H3, rfl, q5, hE5, hy5, hs5, hl5, ha5, hyl, hU5⟩; clear ci)
    replace r0 := cell_upd hU5 KR.out r0
    replace r1 := cell_upd hU5 KR.out r1
    have cS := same_v Wt hb x y 2 i 0 (unbox_int q5.2.choose_spec.1 x _ (hx.out.ext hE5)) (fun w hB => unbox_int (q5.below' hB).2.choose_spec.1 y _ hy5)
    replace SM := hid (show sumH H3 ≤ 4 ∧ H3.length ≤ 3 from ⟨by have := SL.out; have := nI_le i; omega, by have := SL.out; omega⟩)
    clear SL
    replace Q := hid q5
    clear q5 hE5 hy5 hs5 hl5 ha5 hyl hU5 hx
    go_upto_region 17 with (go_at_call 8; (with_reducible refine cS.mono ?_); rintro e Wt ⟨rfl, hBk⟩; clear cS; (replace r0 := cell_keep hBk r0); (replace r1 := cell_keep hBk r1); (replace Q := hid (Q.out.below' hBk)); clear hBk)
    clear h1 h2
  rotate_left 1
  focus
    go_upto_region 17 with fail
    clear h1
  rotate_left 1
  focus
    go_upto_region 17 with fail
    clear h1 h2
  all_goals (
    have bD : Below Wt.heap.size Wt (Wt.alloc (.cells #[.int .u64 (d : Nat)] 22)) := (Below.refl _ Wt).alloc (Nat.le_refl _) _
    cases hft : fitsB (d : Int) with
    | false =>
      have co := (bin_int_out (hb := hb) d Wt.heap.size CD.out XY.out.2 (fun w => softTrunc_out (d : Int) hft w) (World.cell?_alloc_new Wt #[.int .u64 (d : Nat)] 22 0) (.slice (some ⟨rb, 0, none⟩) 2 2) [x, d] (words_of2 (cell_keep bD r0) (cell_keep bD r1) XY.out.1 XY.out.2) (by simp)).mono (fun e w' h => (⟨h.1, below_two bD h.2⟩ : _ ∧ Below Wt.heap.size Wt w'))
      clear hft bD
      go_upto_region 19 with (go_at_call 6; (with_reducible refine co.mono ?_); rintro e Wt ⟨rfl, hBk⟩; clear co; (replace r0 := cell_keep hBk r0); (replace r1 := cell_keep hBk r1); (replace Q := hid (Q.out.below' hBk)); clear hBk)
      have HB := hid Q.out.bel
      clear Q r0 r1
      go_wp2_with (go_at_call 9; (with_reducible refine (awake10_c _).mono ?_); rintro e We ⟨rfl, hBe⟩)
      go_ret
      exact ⟨rfl, HB.out.trans (hBe.mono HB.out.size)⟩
    | true =>
      obtain ⟨t, t0, t1, hv, hlo, hhi⟩ := cast_in (d : Int) (Int.natCast_nonneg d) (by have := XY.out.2; omega) hft
      have LH := hid (And.intro hlo hhi)
      have ci := (bin_int (Q.out.below' bD) d Wt.heap.size t CD.out XY.out.2 t0 t1 (fun w => softTrunc_in (d : Int) t hv hft w) (World.cell?_alloc_new Wt #[.int .u64 (d : Nat)] 22 0) (.slice (some ⟨rb, 0, none⟩) 2 2) [x, d] (words_of2 (cell_keep bD r0) (cell_keep bD r1) XY.out.1 XY.out.2) (by simp) (by have := SM.out; omega) (by have := SM.out; omega)).mono (fun e w' h => BPost.on bD h)
      have TT := hid (And.intro t0 t1)
      clear hft bD hv hlo hhi t0 t1
      go_upto_region 20 with (go_at_call 6; (with_reducible refine ci.mono ?_); rintro e Wt ⟨y, Ht, rfl, q5, hE5, hy5, hs5, hl5, ha5, hyl, hU5⟩; clear ci)
      replace r0 := cell_upd hU5 KR.out r0
      replace r1 := cell_upd hU5 KR.out r1
      have HY := hid (show IsNum Ht y true t 0 from .inl ⟨rfl, rfl, hy5, TT.out.1, by have := TT.out.2; omega⟩)
      have S6 := hid (show sumH Ht ≤ 6 ∧ Ht.length ≤ 4 from ⟨by have := SM.out; have := nI_le t; omega, by have := SM.out; omega⟩)
      have hd := hid (show IsNum Ht d false 0 (d : Int) from .inr ⟨rfl, rfl, rfl, CD.out, XY.out.2⟩)
      obtain ⟨g, gc, Wv, hrun, hg0, hg1, hBv, hwv⟩ := app3k Wt rb x d y 31 r0 r1 XY.out.1 XY.out.2 hyl
      have q6 := q5.below hBv
      have KG : Hid ((fun k => K4 k ∨ (Wt.heap.size ≤ k ∧ k < Wv.heap.size)) g) := hid (.inr ⟨hg0, hg1⟩)
      clear Q q5 hE5 hs5 hl5 ha5 hU5 hy5 hyl r0 r1 SM hg0 hg1 hBv
      generalize (fun k => K4 k ∨ (Wt.heap.size ≤ k ∧ k < Wv.heap.size)) = K6 at *
      have HW := hid hwv
      have Q := hid q6
      clear hwv q6
      go_upto_region 22 with (at_builtin; refine Lib.wpList_append_run _ rfl (.tmp 130) (.tmp 132) 31 31 rfl _ _ (by simp [Act.eval]) (by simp [Act.eval]) _ _ hrun ?_)
      clear hrun
      have cs := bin_subN Q.out d 18444773748872577025 false true 0 (d : Int) 1 0 hd.out (one_word _) (.slice (some ⟨g, 0, none⟩) 3 gc) [x, d, y] HW.out (by simp) (by have := S6.out; omega) (by have := S6.out; omega)
      rw [sub_one] at cs
      rw [show ((18444773748872577025 : Nat) : Int) = 18444773748872577025 from rfl] at cs
      go_upto_region 23 with (go_at_call 10; (with_reducible refine cs.mono ?_); rintro e Wa ⟨p, Ha, rfl, qa, hEa, hsa, hla, hUa, hpl, hok, hno⟩; clear cs)
      have HP := hid (hok rfl)
      replace HY := hid (HY.out.ext hEa)
      replace hd := hid (hd.out.ext hEa)
      replace HW := hid (words_upd hUa KG.out HW.out)
      replace S6 := hid (show sumH Ha ≤ 8 ∧ Ha.length ≤ 5 from ⟨by have := S6.out; omega, by have := S6.out; omega⟩)
      replace Q := hid qa
      clear qa hEa hsa hla hUa hpl hok hno
      have ca := bin_addN Q.out d 18444773748872577025 false true 0 (d : Int) 1 0 hd.out (one_word _) (.slice (some ⟨g, 0, none⟩) 3 gc) [x, d, y] HW.out (by simp) (by have := S6.out; omega) (by have := S6.out; omega)
      rw [add_one] at ca
      rw [show ((18444773748872577025 : Nat) : Int) = 18444773748872577025 from rfl] at ca
      go_upto_region 24 with (go_at_call 10; (with_reducible refine ca.mono ?_); rintro e Wb ⟨s, Hb, rfl, qb, hEb, hsb, hlb, hUb, hpl, hok, hno⟩; clear ca)
      have HS := hid (hok rfl)
      replace HY := hid (HY.out.ext hEb)
      replace HP := hid (HP.out.ext hEb)
      replace HW := hid (words_upd hUb KG.out HW.out)
      replace Q := hid qb
      have NP := hid (show IsNum Hb p false 0 (Go.Proofs.YtgmimmdojkoppaaGreatDoor.W.fltW (opI .sub (d : Int) (fromI 1))) from by
        rcases HP.out with ⟨c, _⟩ | ⟨_, h2, h3⟩
        · cases c
        · exact flt_num h2 h3)
      have NS := hid (show IsNum Hb s false 0 (Go.Proofs.YtgmimmdojkoppaaGreatDoor.W.fltW (opI .add (d : Int) (fromI 1))) from by
        rcases HS.out with ⟨c, _⟩ | ⟨_, h2, h3⟩
        · cases c
        · exact flt_num h2 h3)
      clear qb hEb hsb hlb hUb hpl hok hno HP HS hd S6
      have cl := bin_le Q.out p y false true 0 _ t 0 NP.out HY.out (.slice (some ⟨g, 0, none⟩) 3 gc) [x, d, y] HW.out (by simp)
      rw [LH.out.1] at cl
      go_upto_region 25 with (go_at_call 10; (with_reducible refine cl.mono ?_); rintro e Wc ⟨rfl, hBk⟩; clear cl)
      replace HW := hid (words_below HW.out hBk)
      replace Q := hid (Q.out.below' hBk)
      clear hBk
      have ch := bin_le Q.out y s true false t 0 0 _ HY.out NS.out (.slice (some ⟨g, 0, none⟩) 3 gc) [x, d, y] HW.out (by simp)
      rw [LH.out.2] at ch
      go_upto_region 26 with (go_at_call 10; (with_reducible refine ch.mono ?_); rintro e Wd ⟨rfl, hBk⟩; clear ch)
      have HB := hid (Q.out.below' hBk).bel
      clear Q HW hBk NP NS HY LH
      go_wp2_with (first | (go_at_call 11; (with_reducible refine (refFromBool_c _ _).mono ?_); rintro e w' ⟨rfl, hw⟩; (have hw' := hw.symm); subst hw'; clear hw) | (go_at_call 9; (with_reducible refine (awake10_c _).mono ?_); rintro e We ⟨rfl, hBe⟩))
      go_ret
      exact ⟨rfl, HB.out.trans (hBe.mono HB.out.size)⟩)
theorem opsCasts_walk (a0 a1 : Int) (w0 : (Lit.int .i64 a0).wf = true) (w1 : (Lit.int .u64 a1).wf = true) (W : World) : Calls Tryz.prog 3 #[.int .i64 a0, .int .u64 a1] W fun e w' => e = .returned (.bool true) ∧ Below W.heap.size W w' := by
  have h0 := wf_i64' w0
  refine casts_core a0 a1 (by omega) (by omega) (wf_u64' w1).1 (wf_u64' w1).2 ?_ W
  omega
end Go.Proofs.YtgmimmdojkoppaaGreatDoor.W.Nu
