import Derived.Test.YtmeoonnofiicpaaS8nJ
/- act, whole: loading, saving, packing, telling. -/
namespace Go.Proofs.Ytmeoonnofiicpaa.W.R5
open Go.ChangeShapes Go.WideShapes Go.RowKit Go.Shelf
set_option linter.unusedVariables false
set_option linter.unusedSimpArgs false
section
variable {B0 : Nat} {W w' w'' : World} {K : Nat → Prop} {sb rb M M1 M2 n : Nat} {A A1 A2 : List (Option (List Nat))} {a : Si.A6} {l : List En} {v : Value}
theorem errA_none {id off wd : Int} (hx : id < 0 ∨ (A[id.toNat]?).getD none = none) : errA A id off wd = 30 := by
  unfold errA
  by_cases h0 : id < 0
  · rw [if_pos h0]
  · rw [if_neg h0]
    rcases hx with hx | hx
    · exact absurd hx h0
    · rw [hx]
theorem errA_some {k : Nat} {x : List Nat} (hx : A[k]? = some (some x)) (off wd : Int) : errA A (k : Int) off wd = reachE x.length off wd := by
  unfold errA
  rw [if_neg (by omega), Int.toNat_natCast, hx]
  rfl
theorem rload_err (h : Rs B0 W rb A M l v) (id off wd : Int) (he : errA A id off wd ≠ 0) : Calls Try.prog 18 #[(Value.pointer (some ⟨rb, 0, none⟩)), .int .i64 id, .int .i64 off, .int .i64 wd] W fun e w' => e = .returned (.tuple #[.int .u64 0, .int .i64 (errA A id off wd)]) ∧ Below W.heap.size W w' := by
  rcases id_cases A id with hx | ⟨k, x, rfl, hx⟩
  · rw [errA_none hx]; exact rload_none h hx
  · rw [errA_some hx] at he ⊢; exact rload_bad h hx he
theorem rsave_err (h : Rs B0 W rb A M l v) (id off wd : Int) (y : Value) (he : errA A id off wd ≠ 0) : Calls Try.prog 20 #[(Value.pointer (some ⟨rb, 0, none⟩)), .int .i64 id, .int .i64 off, .int .i64 wd, y] W fun e w' => e = .returned (.int .i64 (errA A id off wd)) ∧ Below W.heap.size W w' := by
  rcases id_cases A id with hx | ⟨k, x, rfl, hx⟩
  · rw [errA_none hx]; exact rsave_none h hx
  · rw [errA_some hx] at he ⊢; exact rsave_bad h hx he
theorem act4_c (h : Bo B0 W K sb rb A M n) (hk : a.what = 4) : Calls Try.prog 7 #[(Value.pointer (some ⟨sb, 0, none⟩)), (Value.pointer (some ⟨rb, 0, none⟩)), (Value.agg #[.int .i64 a.what, .int .i64 a.n, .int .i64 a.id, .int .i64 a.off, .int .i64 a.wd, .int .u64 a.x])] W fun e w' => e = .returned (.bool true) ∧ Aft B0 W K sb rb A M n w' := by
  have kx : ∀ w', Jq B0 W w' K sb rb A M A M n a → Bx W w' rb a := fun w' ⟨_, _, _, _, _, _, _, _, _, h⟩ => h
  by_cases he : errA A a.id a.off a.wd = 0
  · obtain ⟨k, o, d, x, hi, ho, hd, hx, hw, hal, hle⟩ := errA_ok a.id a.off a.wd he
    refine (act4_g a hk (leN (seg x o d) : Nat) 0 (fun w => Jq B0 W w K sb rb A M A M n a) (fun w => Jq B0 W w K sb rb A M A M n a) ?_ kx ?_ kx).mono ?_
    · intro w' bx hB hz
      have j := jq_start h hB bx
      have j' := j
      obtain ⟨S, l, v, h0, h1, h2, h3, h4, h5, h6⟩ := j'
      rw [hi, ho, hd]
      refine (load_st h0 k x hx o d hw hal hle).mono ?_
      rintro e w2 ⟨rfl, b2⟩
      exact ⟨rfl, jq_below j b2⟩
    · intro w' j
      have j' := j
      obtain ⟨S, l, v, h0, h1, h2, h3, h4, h5, h6⟩ := j'
      rw [hi, ho, hd]
      refine (rload_ok h1 hx o d hw hal hle).mono ?_
      rintro e w2 ⟨rfl, b2⟩
      exact ⟨rfl, jq_below j b2⟩
    · rintro e w' ⟨rfl, w2, j, rfl⟩
      exact ⟨rfl, aft_end j (by omega) (by omega)⟩
  · refine (act4_g a hk 0 (errA A a.id a.off a.wd) (fun w => Jq B0 W w K sb rb A M A M n a) (fun w => Jq B0 W w K sb rb A M A M n a) ?_ kx ?_ kx).mono ?_
    · intro w' bx hB hz
      have j := jq_start h hB bx
      have j' := j
      obtain ⟨S, l, v, h0, h1, h2, h3, h4, h5, h6⟩ := j'
      refine (load_st_err h0 a.id a.off a.wd he).mono ?_
      rintro e w2 ⟨rfl, b2⟩
      exact ⟨rfl, jq_below j b2⟩
    · intro w' j
      have j' := j
      obtain ⟨S, l, v, h0, h1, h2, h3, h4, h5, h6⟩ := j'
      refine (rload_err h1 a.id a.off a.wd he).mono ?_
      rintro e w2 ⟨rfl, b2⟩
      exact ⟨rfl, jq_below j b2⟩
    · rintro e w' ⟨rfl, w2, j, rfl⟩
      exact ⟨rfl, aft_end j (by omega) (by omega)⟩
theorem act5_c (h : Bo B0 W K sb rb A M n) (hk : a.what = 5) (hx0 : 0 ≤ a.x ∧ a.x < 18446744073709551616) : Calls Try.prog 7 #[(Value.pointer (some ⟨sb, 0, none⟩)), (Value.pointer (some ⟨rb, 0, none⟩)), (Value.agg #[.int .i64 a.what, .int .i64 a.n, .int .i64 a.id, .int .i64 a.off, .int .i64 a.wd, .int .u64 a.x])] W fun e w' => e = .returned (.bool true) ∧ Aft B0 W K sb rb A M n w' := by
  have kx : ∀ A1 A2 w', Jq B0 W w' K sb rb A1 M A2 M n a → Bx W w' rb a := fun A1 A2 w' ⟨_, _, _, _, _, _, _, _, _, h⟩ => h
  by_cases he : errA A a.id a.off a.wd = 0
  · obtain ⟨k, o, d, x, hi, ho, hd, hx, hw, hal, hle⟩ := errA_ok a.id a.off a.wd he
    obtain ⟨X, hX⟩ : ∃ X : Nat, a.x = X := ⟨a.x.toNat, by omega⟩
    have hX9 : X < 18446744073709551616 := by omega
    refine (act5_g a hk 0 (fun w => Jq B0 W w K sb rb (A.set k (some (saved x o X d))) M A M n a) (fun w => Jq B0 W w K sb rb (A.set k (some (saved x o X d))) M (A.set k (some (saved x o X d))) M n a) ?_ (kx _ _) ?_ (kx _ _)).mono ?_
    · intro w' bx hB hz
      obtain ⟨S, l, v, h0, h1, h2, h3, h4, h5, h6⟩ := jq_start h hB bx
      rw [hi, ho, hd, hX]
      refine (save_st h0 k x hx o d X hX9 hw hal hle).mono ?_
      rintro e w2 ⟨rfl, hU, hS⟩
      exact ⟨rfl, jq_one h1 h2 h3 h4 h5 h6 hU (hS.mono (fun k e => .inl e))⟩
    · intro w' j
      obtain ⟨S, l, v, h0, h1, h2, h3, h4, h5, h6⟩ := j
      rw [hi, ho, hd, hX]
      obtain ⟨l', hmine, hc⟩ := rsave_ok h1 hx o d X hX9 hw hal hle
      refine hc.mono ?_
      rintro e w2 ⟨rfl, hU, hR⟩
      exact ⟨rfl, jq_two h0 h1 h2 h3 h4 h5 h6 hU hR (fun k e => .inl (by rw [hmine] at e; exact e))⟩
    · rintro e w' ⟨rfl, w2, j, rfl⟩
      exact ⟨rfl, aft_end j (by rw [List.length_set]; omega) (by omega)⟩
  · refine (act5_g a hk (errA A a.id a.off a.wd) (fun w => Jq B0 W w K sb rb A M A M n a) (fun w => Jq B0 W w K sb rb A M A M n a) ?_ (kx _ _) ?_ (kx _ _)).mono ?_
    · intro w' bx hB hz
      have j := jq_start h hB bx
      have j' := j
      obtain ⟨S, l, v, h0, h1, h2, h3, h4, h5, h6⟩ := j'
      refine (save_st_err h0 a.id a.off a.wd _ he).mono ?_
      rintro e w2 ⟨rfl, b2⟩
      exact ⟨rfl, jq_below j b2⟩
    · intro w' j
      have j' := j
      obtain ⟨S, l, v, h0, h1, h2, h3, h4, h5, h6⟩ := j'
      refine (rsave_err h1 a.id a.off a.wd _ he).mono ?_
      rintro e w2 ⟨rfl, b2⟩
      exact ⟨rfl, jq_below j b2⟩
    · rintro e w' ⟨rfl, w2, j, rfl⟩
      exact ⟨rfl, aft_end j (by omega) (by omega)⟩
theorem act67_c (h : Bo B0 W K sb rb A M n) (hM : M ≤ 100000000000) (hk : a.what = 6 ∨ a.what = 7 ∨ a.what < 1 ∨ 7 < a.what) : Calls Try.prog 7 #[(Value.pointer (some ⟨sb, 0, none⟩)), (Value.pointer (some ⟨rb, 0, none⟩)), (Value.agg #[.int .i64 a.what, .int .i64 a.n, .int .i64 a.id, .int .i64 a.off, .int .i64 a.wd, .int .u64 a.x])] W fun e w' => e = .returned (.bool true) ∧ Aft B0 W K sb rb A M n w' := by
  have h' := h
  obtain ⟨S, l, v, h1, h2, h3, h4, h5⟩ := h'
  rcases hk with hk | hk | hk
  · obtain ⟨R, T, T', sd, hRM, hids, hpos, hpk⟩ := pack_sd h1 (fun k e => (h4 k e).2.1)
    have htop : sumA A ≤ M := by
      obtain ⟨s, E, vr, vb, vf, hL, hO, f⟩ := h1
      exact f.top
    refine (act6_front a hk sd h2 hRM hM (fun k e => (h4 k e).2.1) h3 hids htop hpos hpk).mono ?_
    rintro e w' ⟨rfl, hU, hS⟩
    have z := hU.size
    refine ⟨rfl, hU.mono (fun k e => (h4 k e).2.2), A, M, ⟨S, l, v, hS, h2.on (fun k e => hU.block k (h2.blk_lt k e).2 (fun c => h3 k c e)), h3, fun k e => ⟨(h4 k e).1, by have := (h4 k e).2.1; omega, .inl (h4 k e).2.2⟩, fun k e => .inl (h5 k e)⟩, by omega, by omega⟩
  · obtain ⟨R, T, sd, _⟩ := sd_of h1 (fun k e => (h4 k e).2.1)
    refine (act7_c a hk sd h2).mono ?_
    rintro e w' ⟨rfl, hB⟩
    exact ⟨rfl, aft_same h hB⟩
  · refine (act_none a hk).mono ?_
    rintro e w' ⟨rfl, hB⟩
    exact ⟨rfl, aft_same h hB⟩
/-- act, whatever is done -/
theorem act_c (h : Bo B0 W K sb rb A M n) (hw : a.wf) (hA : A.length < n) (hA2 : A.length < 1000) (hM : M + 8388608 ≤ 100000000000) : Calls Try.prog 7 #[(Value.pointer (some ⟨sb, 0, none⟩)), (Value.pointer (some ⟨rb, 0, none⟩)), (Value.agg #[.int .i64 a.what, .int .i64 a.n, .int .i64 a.id, .int .i64 a.off, .int .i64 a.wd, .int .u64 a.x])] W fun e w' => e = .returned (.bool true) ∧ Aft B0 W K sb rb A M n w' := by
  by_cases c1 : a.what = 1
  · exact act1_c h c1 hA hA2 hM
  by_cases c2 : a.what = 2
  · exact act2_c h c2
  by_cases c3 : a.what = 3
  · exact act3_c h c3
  by_cases c4 : a.what = 4
  · exact act4_c h c4
  by_cases c5 : a.what = 5
  · have hx := hw.2.2.2.2.2
    simp [Lit.wf] at hx
    have e1 : IntKind.u64.min = 0 := by decide
    have e2 : IntKind.u64.max = 18446744073709551615 := by decide
    exact act5_c h c5 (by omega)
  · exact act67_c h (by omega) (by omega)
end
end Go.Proofs.Ytmeoonnofiicpaa.W.R5
