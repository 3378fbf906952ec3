import Derived.Test.YtgmimmdojkoppaaGreatDoorO6cJ
import Derived.Test.YtgmimmdojkoppaaGreatDoorBase28
import Derived.Deep.AppendSrc
/- Package ops: sums and products of any two numbers, in words; sameness. -/
namespace Go.Proofs.YtgmimmdojkoppaaGreatDoor.W.Nu
open Go.ChangeShapes Go.WideShapes Go.RowKit Go.Shelf
set_option linter.unusedVariables false
/-- a word is put behind two, in a new row -/
theorem app3 (W : World) (rb x y p : Nat) (ty : TypeId) (r0 : W.cell? ⟨rb, 0, none⟩ = some (.int .u64 (x : Nat))) (r1 : W.cell? ⟨rb, 1, none⟩ = some (.int .u64 (y : Nat))) (lx : x < 18446744073709551616) (ly : y < 18446744073709551616) (lp : p < 18446744073709551616) :
    ∃ (g cap : Nat) (w' : World), (Builtin.append_ #[31, 31] ty #[.slice (some ⟨rb, 0, none⟩) 2 2, .slice (some ⟨W.heap.size, 0, none⟩) 1 1]).run Tryz.prog (W.alloc (.cells #[.int .u64 (p : Nat)] 22)) = .ok (.slice (some ⟨g, 0, none⟩) 3 cap) w' ∧ Below W.heap.size W w' ∧ WordsAt w' (.slice (some ⟨g, 0, none⟩) 3 cap) [x, y, p] := by
  obtain ⟨i0, hi, hz0, hz1, hz2⟩ := info_parts infoW
  have hB1 : Below W.heap.size W (W.alloc (.cells #[.int .u64 (p : Nat)] 22)) := (Below.refl _ W).alloc (Nat.le_refl _) _
  have e0 := World.cell?_alloc_new W #[.int .u64 (p : Nat)] 22 0
  have k0 := cell_keep hB1 r0
  have k1 := cell_keep hB1 r1
  generalize W.alloc (.cells #[.int .u64 (p : Nat)] 22) = V at *
  have ad : ∀ (b j : Nat), ((⟨b, 0, none⟩ : Addr).add j) = ⟨b, j, none⟩ := fun b j => by unfold Addr.add; split <;> simp_all
  have hr := run_append_grow_src (P := Tryz.prog) V 31 31 ty 22 i0 (.int .u64 0) underW hi hz0 (some ⟨rb, 0, none⟩) 2 2 [.int .u64 (x : Nat), .int .u64 (y : Nat)] (run_firstCells_some V.drew i0.size 2 ⟨rb, 0, none⟩ 2 2 _ (by rw [hz1]; rfl) (by
      intro j u hj
      rw [ad]
      have hj2 : j < 2 := (List.getElem?_eq_some_iff.1 hj).1
      have : j = 0 ∨ j = 1 := by omega
      rcases this with rfl | rfl
      · cases hj; exact k0
      · cases hj; exact k1)) (.slice (some ⟨W.heap.size, 0, none⟩) 1 1) 1 [.int .u64 (p : Nat)] (Src.ofSlice V underW ⟨W.heap.size, 0, none⟩ 1 1 [.int .u64 (p : Nat)] (by rw [hz1]; rfl) (by
      intro j u hj
      rw [ad]
      have : j = 0 := by have := (List.getElem?_eq_some_iff.1 hj).1; simp at this; exact this
      subst this
      cases hj
      exact e0) (by intro u hu; simp at hu; rw [hu]; rfl)) (by decide) (by decide) (by rw [hz2]; decide)
  refine ⟨_, _, _, hr, ?_, ?_⟩
  · have h2 : Below W.heap.size W V.drew := hB1.drew
    exact h2.alloc h2.size _
  · refine ⟨_, _, rfl, by simp, fun z hz => by simp at hz; rcases hz with rfl | rfl | rfl <;> assumption, fun j hj => ⟨_, rfl, ?_⟩⟩
    rw [ad]
    have hh := World.cell?_alloc_new V.drew (([Value.int .u64 (x : Nat), Value.int .u64 (y : Nat)] ++ [Value.int .u64 (p : Nat)]).toArray ++ Builtin.zeroCells (Value.int .u64 0).cells (grownCap V (2 + 1) 2 22 - (2 + 1))) 22 j
    have e1 : V.drew.heap.size = V.heap.size := rfl
    rw [e1] at hh
    rw [hh, Array.getElem?_append_left (by simp at hj ⊢; omega)]
    have : j = 0 ∨ j = 1 ∨ j = 2 := by simp at hj; omega
    rcases this with rfl | rfl | rfl <;> rfl
theorem eg_mul' : ∀ args w, (callFunc 54 args).run Tryz.prog w = .ok (.enter 54 args) w := enters_of Tryz.func54 (by kernel_rfl) rfl
set_option maxRecDepth 100000 in
theorem binary_mul' (W : World) : Calls Tryz.prog 21 #[.string ⟨#[42]⟩] W fun e w' => ∃ cp, e = .returned (.func (.func 97) #[] #[.pointer (some ⟨cp, 0, none⟩)]) ∧ w'.cell? ⟨cp, 0, none⟩ = some (.func (.func 54) #[] #[]) ∧ Below W.heap.size W w' := by
  go_enter Tryz.func21, Tryz.ntmps21
  go_wp2_with (go_at_call 52; (with_reducible refine (reckons_c _ _).mono ?_); rintro e w2 ⟨rfl, h⟩)
  go_ret
  exact ⟨_, rfl, h⟩
/-- what a reckoned number is, in a word -/
def IsRes (H : List (Option Hc)) (w : Nat) (r : Res) : Prop := (r.w = true ∧ IsInt H w r.i) ∨ (r.w = false ∧ (w : Int) = Go.Proofs.YtgmimmdojkoppaaGreatDoor.W.fltW r.u ∧ w < 18446744073709551616)
theorem IsRes.ext {H H' : List (Option Hc)} {w : Nat} {r : Res} (h : IsRes H w r) (he : Ext H H') : IsRes H' w r := by
  rcases h with ⟨h1, h2⟩ | h
  · exact .inl ⟨h1, h2.ext he⟩
  · exact .inr h
/-- behind an operator that reckons -/
def EP (W0 W1 : World) (hb : Nat) (H : List (Option Hc)) (u : Nat) (K : Nat → Prop) (r : Res) (e : Ending) (w' : World) : Prop := ∃ (w : Nat) (H' : List (Option Hc)), e = .returned (.tuple #[.int .u64 (w : Nat), .int .i64 r.e]) ∧ Hf W0 w' hb H' u K ∧ Ext H H' ∧ sumH H' ≤ sumH H + 2 ∧ H'.length ≤ H.length + 1 ∧ Upd (Ch W0 K) W1 w' ∧ w < 18446744073709551616 ∧ (r.e = 0 → IsRes H' w r) ∧ (r.e ≠ 0 → w = 0)
theorem EP.two {W0 W1 : World} {hb : Nat} {H : List (Option Hc)} {u : Nat} {K : Nat → Prop} {r : Res} : ∀ e w', EP W0 W1 hb H u K r e w' → ∃ x y, e = .returned (.tuple #[.int .u64 x, .int .i64 y]) := fun e w' ⟨w, H', h, _⟩ => ⟨_, _, h⟩
theorem EP.on {W0 W1 W2 W' : World} {hb : Nat} {H : List (Option Hc)} {u : Nat} {K : Nat → Prop} {r : Res} {e : Ending} (hB : Below W1.heap.size W1 W2) (h : EP W0 W2 hb H u K r e W') : EP W0 W1 hb H u K r e W' := by
  obtain ⟨w, H', h1, h2, h3, h4, h5, h6, h7⟩ := h
  exact ⟨w, H', h1, h2, h3, h4, h5, (Upd.of_below hB).trans' h6, h7⟩
/-- an answer that is one -/
def ROk (r : Res) : Prop := (∃ n, r = okW n ∧ -9223372036854775808 ≤ n ∧ n ≤ 9223372036854775807) ∨ (∃ d, r = okD d ∧ 0 ≤ d ∧ d < 18446744073709551616) ∨ (∃ c, r = bad c ∧ c ≠ 0)
theorem fitR_ok (n : Int) : ROk (fitR n) := by
  by_cases h : -9223372036854775808 ≤ n ∧ n < 9223372036854775808
  · rw [fitR_in h]; exact .inl ⟨n, rfl, h.1, by omega⟩
  · rw [fitR_out h]; exact .inr (.inr ⟨10, rfl, by decide⟩)
theorem nI_le (n : Int) : nI n ≤ 2 := by unfold nI; split <;> omega
section
variable {W0 W : World} {hb : Nat} {H : List (Option Hc)} {u' : Nat} {K : Nat → Prop}
theorem rec_res (q : Hf W0 W hb H u' K) (hf : sumH H + 2 ≤ u') (hH : H.length ≤ 1000000) (w' : World) (h : Below W.heap.size W w') (cp g vb : Nat) (vw vr' : Value) (rs : List Nat) (eg : ∀ args w, (callFunc g args).run Tryz.prog w = .ok (.enter g args) w) (hc : w'.cell? ⟨cp, 0, none⟩ = some (.func (.func g) #[] #[])) (hw : WordsAt w' vr' rs) (a b : Bool) (i u j v : Int) (sx : (a = true ∧ u = 0) ∨ (a = false ∧ i = 0)) (sy : (b = true ∧ v = 0) ∨ (b = false ∧ j = 0))
    (hv : ∀ k, w'.cell? ⟨vb, k, none⟩ = #[.int .i64 (kV a), .int .i64 i, .int .u64 u, .string ⟨#[]⟩, .int .u64 0, .int .i64 (kV b), .int .i64 j, .int .u64 v, .string ⟨#[]⟩, .int .u64 0][k]?)
    (r : Res) (hr : ROk r) (cg : ∀ w, Calls Tryz.prog g #[.agg #[.bool a, .int .i64 i, .int .u64 u], .agg #[.bool b, .int .i64 j, .int .u64 v]] w fun e w' => e = .returned (resV r) ∧ Gr w w') :
    Calls Tryz.prog 97 #[.agg #[.pointer (some ⟨hb, 0, none⟩), vw, .slice (some ⟨vb, 0, none⟩) 2 2, vr'], .pointer (some ⟨cp, 0, none⟩)] w' (EP W0 W hb H u' K r) := by
  have cn : ∀ w2, Below w'.heap.size w' w2 → Calls Tryz.prog 98 #[.agg #[.pointer (some ⟨hb, 0, none⟩), vw, .slice (some ⟨vb, 0, none⟩) 2 2, vr']] w2 fun e w3 => e = .returned (.tuple #[.agg #[.bool a, .int .i64 i, .int .u64 u], .agg #[.bool b, .int .i64 j, .int .u64 v], .bool true]) ∧ Gr w2 w3 := fun w2 h2 => numbers_tt w2 hb vb 2 _ _ (by decide) (by decide) (kV a) i u 0 (kV b) j v 0 _ _ (fun k => by rw [h2.cell (p := ⟨vb, k, none⟩) (cell_lt (hv 0))]; exact hv k) a b i u j v (number_n a i u sx) (number_n b j v sy)
  rcases hr with ⟨n, rfl, n0, n1⟩ | ⟨d, rfl, d0, d1⟩ | ⟨c, rfl, hc0⟩
  · refine reckons1_g cp g eg hc a b true i u j v n 0 cn cg (fun w3 h3 => ?_) EP.two
    refine boxNum_i n 0 (fun w4 h4 => ?_) EP.two
    have h34 := h3.trans (h4.mono h3.size)
    refine (boxI (q.below' (h.trans (h34.mono h.size))) vr' _ (words_below hw h34) n n0 n1 hf hH).mono ?_
    rintro e w5 ⟨w, H', rfl, p1, p2, p3, p4, p5, p6, p7, p8⟩
    have := nI_le n
    exact ⟨w, H', rfl, p1, p2, by omega, p5, (Upd.of_below (h.trans (h34.mono h.size))).trans' p8, p7, fun _ => .inl ⟨rfl, p3⟩, fun hh => absurd rfl hh⟩
  · refine reckons1_g cp g eg hc a b false i u j v 0 d cn cg (fun w3 h3 => ?_) EP.two
    refine boxNum_f 0 d (fun w4 h4 => ?_) EP.two
    have h34 := h3.trans (h4.mono h3.size)
    refine (boxF (q.below' (h.trans (h34.mono h.size))) vr' d d0 d1).mono ?_
    rintro e w5 ⟨w, H', rfl, p1, p2, p3, p4, p5, p6, p7, p8⟩
    exact ⟨w, H', rfl, p1, p2, by omega, p5, (Upd.of_below (h.trans (h34.mono h.size))).trans' p8, p7, fun _ => .inr ⟨rfl, p3, p7⟩, fun hh => absurd rfl hh⟩
  · refine (reckons1_e cp g eg hc a b false i u j v 0 0 c (by simpa using hc0) cn cg).mono ?_
    rintro e w5 ⟨rfl, h5⟩
    have hB := h.trans (h5.mono h.size)
    exact ⟨0, H, rfl, q.below' hB, Ext.refl _, by omega, by omega, Upd.of_below hB, by decide, fun hh => absurd hh hc0, fun _ => rfl⟩
theorem addN_ok (a b : Bool) (i u j v : Int) : ROk (addR a i u b j v) := by
  unfold addR
  split
  · exact fitR_ok _
  · exact .inr (.inl ⟨_, rfl, (opI_range _ _ _).1, (opI_range _ _ _).2⟩)
theorem bin_addN (q : Hf W0 W hb H u' K) (x y : Nat) (a b : Bool) (i u j v : Int) (hx : IsNum H x a i u) (hy : IsNum H y b j v) (vr : Value) (rs : List Nat) (hr : WordsAt W vr rs) (hl : rs.length ≤ 999000) (hf : sumH H + 2 ≤ u') (hH : H.length ≤ 1000000) : Calls Tryz.prog 10 #[.pointer (some ⟨hb, 0, none⟩), .string ⟨#[43]⟩, .int .u64 (x : Nat), .int .u64 (y : Nat), vr] W (EP W0 W hb H u' K (addR a i u b j v)) := by
  have sx := hx.shape
  have sy := hy.shape
  have ix := hx.inN
  have iy := hy.inN
  refine Binary_g W hb _ x y _ eg_plus vr rs hr hl (kV a) i u 0 ⟨#[]⟩ (kV b) j v 0 ⟨#[]⟩ hx.lt hy.lt (binary_plus W) (fun w' h => unbox_n (q.below' h).2.choose_spec.1 x a i u hx) (fun w' h => unbox_n (q.below' h).2.choose_spec.1 y b j v hy) EP.two (fun w' wb vb vr' h hw0 hw1 hv hw => ?_)
  refine plus_g (kV a) i u 0 (kV b) j v 0 _ _ (by cases a <;> cases b <;> decide) hv (fun w2 cp h2 hc => ?_) EP.two
  exact rec_res q hf hH w2 (h.trans (h2.mono h.size)) cp _ vb _ vr' _ eg_add hc (words_below hw h2) a b i u j v sx sy (fun k => by rw [h2.cell (p := ⟨vb, k, none⟩) (cell_lt (hv 0))]; exact hv k) _ (addN_ok a b i u j v) (fun w => numAdd_c a b i u j v ix.1.1 ix.1.2 iy.1.1 iy.1.2 w)
theorem mulN_ok (a b : Bool) (i u j v : Int) : ROk (mulR a i u b j v) := by
  unfold mulR
  split
  · exact fitR_ok _
  · exact .inr (.inl ⟨_, rfl, (opI_range _ _ _).1, (opI_range _ _ _).2⟩)
theorem bin_mulN (q : Hf W0 W hb H u' K) (x y : Nat) (a b : Bool) (i u j v : Int) (hx : IsNum H x a i u) (hy : IsNum H y b j v) (vr : Value) (rs : List Nat) (hr : WordsAt W vr rs) (hl : rs.length ≤ 999000) (hf : sumH H + 2 ≤ u') (hH : H.length ≤ 1000000) : Calls Tryz.prog 10 #[.pointer (some ⟨hb, 0, none⟩), .string ⟨#[42]⟩, .int .u64 (x : Nat), .int .u64 (y : Nat), vr] W (EP W0 W hb H u' K (mulR a i u b j v)) := by
  have sx := hx.shape
  have sy := hy.shape
  have ix := hx.inN
  have iy := hy.inN
  refine Binary_k W hb _ x y _ eg_reckons1 _ vr rs hr hl (kV a) i u 0 ⟨#[]⟩ (kV b) j v 0 ⟨#[]⟩ hx.lt hy.lt (binary_mul' W) (fun w' h => unbox_n (q.below' h).2.choose_spec.1 x a i u hx) (fun w' h => unbox_n (q.below' h).2.choose_spec.1 y b j v hy) EP.two (fun w' cp wb vb vr' h hc hw0 hw1 hv hw => ?_)
  exact rec_res q hf hH w' h cp _ vb _ vr' _ eg_mul' hc hw a b i u j v sx sy hv _ (mulN_ok a b i u j v) (fun w => numMul_c a b i u j v ix.1.1 ix.1.2 iy.1.1 iy.1.2 w)
end
theorem addR_comm (a b : Bool) (i u j v : Int) : addR a i u b j v = addR b j v a i u := by
  unfold addR
  by_cases h : a = true ∧ b = true
  · rw [if_pos h, if_pos ⟨h.2, h.1⟩, Int.add_comm]
  · rw [if_neg h, if_neg (fun h' => h ⟨h'.2, h'.1⟩), add_comm]
theorem mulR_comm (a b : Bool) (i u j v : Int) : mulR a i u b j v = mulR b j v a i u := by
  unfold mulR
  by_cases h : a = true ∧ b = true
  · rw [if_pos h, if_pos ⟨h.2, h.1⟩, Int.mul_comm]
  · rw [if_neg h, if_neg (fun h' => h ⟨h'.2, h'.1⟩), mul_comm]
theorem cmp_sym (x y : Int) : (cmpI x y == 0) = (cmpI y x == 0) := by
  unfold cmpI
  by_cases h1 : x < y
  · rw [if_pos h1, if_neg (by omega), if_pos h1]; rfl
  · by_cases h2 : y < x
    · rw [if_neg h1, if_pos h2, if_pos h2]; rfl
    · rw [if_neg h1, if_neg h2, if_neg h2, if_neg h1]
theorem turn_sym (o : Int) (h : o = -1 ∨ o = 0 ∨ o = 1 ∨ o = 2) : (turnI o == 0) = (o == 0) := by rcases h with rfl | rfl | rfl | rfl <;> decide
theorem equal_sym (a b : Bool) (i u j v : Int) : equalN a i u b j v = equalN b j v a i u := by
  unfold equalN ordI
  cases a <;> cases b
  · show (ordD u v == 0) = (ordD v u == 0)
    unfold ordD
    by_cases h : nanB u = true ∨ nanB v = true
    · rw [if_pos h, if_pos h.symm]
    · rw [if_neg h, if_neg (fun h' => h h'.symm)]; exact cmp_sym _ _
  · exact turn_sym _ (ordM_four _ _)
  · exact (turn_sym _ (ordM_four _ _)).symm
  · exact cmp_sym _ _
theorem cmp_self (x : Int) : cmpI x x = 0 := cmpI_eq rfl
theorem equal_self (a : Bool) (i u : Int) : equalN a i u a i u = !(!a && nanB u) := by
  unfold equalN ordI
  cases a
  · show (ordD u u == 0) = _
    unfold ordD
    by_cases h : nanB u = true
    · rw [if_pos (.inl h), h]; rfl
    · have h' : nanB u = false := by simpa using h
      rw [if_neg (by simp [h']), h', cmp_self]; rfl
  · show (cmpI i i == 0) = _
    rw [cmp_self]; rfl

set_option maxRecDepth 100000 in
theorem same_v (W : World) (hb p q : Nat) (k i u : Int) (c1 : Calls Tryz.prog 18 #[.pointer (some ⟨hb, 0, none⟩), .int .u64 (p : Nat)] W fun e w' => e = .returned (.tuple #[.agg #[.int .i64 k, .int .i64 i, .int .u64 u, .string ⟨#[]⟩, .int .u64 0], .int .i64 0]) ∧ Below W.heap.size W w')
    (c2 : ∀ w, Below W.heap.size W w → Calls Tryz.prog 18 #[.pointer (some ⟨hb, 0, none⟩), .int .u64 (q : Nat)] w fun e w' => e = .returned (.tuple #[.agg #[.int .i64 k, .int .i64 i, .int .u64 u, .string ⟨#[]⟩, .int .u64 0], .int .i64 0]) ∧ Below w.heap.size w w') :
    Calls Tryz.prog 8 #[.pointer (some ⟨hb, 0, none⟩), .int .u64 (p : Nat), .int .u64 (q : Nat)] W fun e w' => e = .returned (.tuple #[.bool true, .int .i64 0]) ∧ Below W.heap.size W w' := by
  go_enter Tryz.func8, Tryz.ntmps8
  go_upto_region 2 with (go_at_call 18; (with_reducible refine c1.mono ?_); rintro e W1 ⟨rfl, hB1⟩; clear c1)
  have hB2 : Below W.heap.size W (W1.alloc (.cells #[.int .i64 k, .int .i64 i, .int .u64 u, .string ⟨#[]⟩, .int .u64 0] 47)) := hB1.alloc hB1.size _
  have e1 := World.cell?_alloc_new W1 #[.int .i64 k, .int .i64 i, .int .u64 u, .string ⟨#[]⟩, .int .u64 0] 47
  have c3 := c2 _ hB2
  replace hB2 := hid hB2
  clear hB1 c2
  generalize W1.heap.size = b1 at *
  generalize W1.alloc (.cells #[.int .i64 k, .int .i64 i, .int .u64 u, .string ⟨#[]⟩, .int .u64 0] 47) = W2 at *
  go_upto_region 7 with (go_at_call 18; (with_reducible refine c3.mono ?_); rintro e W3 ⟨rfl, hB3⟩; clear c3)
  have hB4 : Below W2.heap.size W2 (W3.alloc (.cells #[.int .i64 k, .int .i64 i, .int .u64 u, .string ⟨#[]⟩, .int .u64 0] 47)) := hB3.alloc hB3.size _
  have l1 : b1 < W2.heap.size := cell_lt (e1 0)
  replace e1 : ∀ j, (W3.alloc (.cells #[.int .i64 k, .int .i64 i, .int .u64 u, .string ⟨#[]⟩, .int .u64 0] 47)).cell? ⟨b1, j, none⟩ = #[.int .i64 k, .int .i64 i, .int .u64 u, .string ⟨#[]⟩, .int .u64 0][j]? := fun j => by rw [hB4.cell (p := ⟨b1, j, none⟩) l1]; exact e1 j
  have e2 := World.cell?_alloc_new W3 #[.int .i64 k, .int .i64 i, .int .u64 u, .string ⟨#[]⟩, .int .u64 0] 47
  have HB := hid (hB2.out.trans (hB4.mono hB2.out.size))
  clear hB3 hB4 hB2 l1
  generalize W3.heap.size = b2 at *
  generalize W3.alloc (.cells #[.int .i64 k, .int .i64 i, .int .u64 u, .string ⟨#[]⟩, .int .u64 0] 47) = W4 at *
  go_wp2
  go_ret2
  exact ⟨rfl, HB.out⟩
end Go.Proofs.YtgmimmdojkoppaaGreatDoor.W.Nu
